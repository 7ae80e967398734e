/- The statement's Pattern: patterns out of what statements are handed. -/
import Derived.Test.YtnjndlbhnkhlhaaDoorTrQ
namespace Go.Proofs.YtnjndlbhnkhlhaaDoor
open Go Go.RowKit Pk Rl
set_option maxRecDepth 20000

theorem dtake_snoc (L : List Nd) (j : Nat) (h : j < L.length) : L.take (j + 1) = L.take j ++ [L.getD j nz] := by
  rw [List.take_succ_eq_append_getElem h, List.getD_eq_getElem?_getD, List.getElem?_eq_getElem h]; rfl
theorem cn_cut (k : Int) (x : Bool) (t : Int) (a : Option Addr) (n c : Nat) (L : List TT) (y : Bool) (x' : Bool) (t' : Int) (a' : Option Addr) (n' c' : Nat) (L' : List TT) (lo hi s : Int) (A A' : Option Addr) (K C K' C' : Nat) :
    cn 10 ⟨k, ⟨x, t, A, K, C, L.take 10⟩, y, ⟨x', t', A', K', C', L'.take 10⟩, lo, hi, s⟩ = cn 10 ⟨k, ⟨x, t, a, n, c, L⟩, y, ⟨x', t', a', n', c', L'⟩, lo, hi, s⟩ := by
  unfold cn cq
  simp only [List.take_take, Nat.min_self]
theorem QB.mono {w : World} {B B' : Nat} {v : Value} {q : Qu} (h : QB w B v q) (hB : B' ≤ B) : QB w B' v q := ⟨h.own.mono hB, h.len, h.few, h.ok, h.dis⟩
theorem OwnN.mono {w : World} {B B' : Nat} {v : Value} {D : List Nd} (h : OwnN w B v D) (hB : B' ≤ B) : OwnN w B' v D := by
  refine ⟨⟨h.1.1, ?_⟩, fun n hn => ⟨(h.2 n hn).1.mono hB, (h.2 n hn).2.1.mono hB, (h.2 n hn).2.2⟩⟩
  rcases h.1.2 with h0 | ⟨g, cap, cur, hv, hg, r⟩
  · exact .inl h0
  · exact .inr ⟨g, cap, cur, hv, Nat.le_trans hB hg, r⟩
set_option maxHeartbeats 16000000 in
theorem pattern_any (a : Option Addr) (n c : Nat) (L : List Nd) (win : Int) (w : World) (hn : L.length = n) (hm : n ≤ maxLen) (hv : RN w a L) :
    Calls Tryd.prog 5 #[ptv a n c win] w fun e w' => ∃ A k c' D, e = .returned (ptv A k c' win) ∧ D.length = k ∧ D.map (cn 10) = (L.take 40).map (cn 10) ∧ OwnN w' w.heap.size (.slice A k c') D ∧ Below w.heap.size w w' := by
  have R0 := Lib.hid (Rpt.start w win (xpobj a n c win))
  have HN := Lib.hid hn
  have HV := Lib.hid hv
  unfold maxLen at hm
  clear hn hv
  go_enter Tryd.func5, Tryd.ntmps5
  go_wp2
  go_loopw [12] (fun i W => ∃ (j : Nat) (A : Option Addr) (k c' : Nat), i = .int .i64 j ∧ j ≤ n ∧ k ≤ 40 ∧ Hid (∃ D, Rpt w W win A k c' D ∧ D.length = k ∧ D.map (cn 10) = (L.take (min j 40)).map (cn 10))) (fun i _ => n - (intOf i).toNat)
  case atStart => exact ⟨0, none, 0, 0, rfl, by omega, by omega, Lib.hid ⟨[], R0.out, rfl, rfl⟩⟩
  case round =>
    obtain ⟨j, A, k, c', rfl, hj, hk, H⟩ := hrel
    obtain ⟨M, hR, hMl, hMc⟩ := H.out
    have R1 := Lib.hid hR
    have HC := Lib.hid hMc
    have HL := Lib.hid hMl
    clear H R0 hR hMl hMc
    by_cases cj : j < n
    · obtain ⟨b, off, rfl, hat⟩ := (HV.out.row.below R1.out.bel) j (by have := HN.out; omega)
      have ME := Lib.hid (ngetD_mem L j (by have := HN.out; omega))
      have TS := Lib.hid (dtake_snoc L j (by have := HN.out; omega))
      obtain ⟨v, hv⟩ : ∃ v, L.getD j nz = v := ⟨_, rfl⟩
      rw [hv] at hat ME TS
      have HQ := Lib.hid ((HV.out.below R1.out.bel).q v ME.out)
      have e1 := R1.out.loc.c0
      have fr := R1.out.loc.free 0
      have zz : w.heap.size + 1 + 1 < wr.heap.size := by have := R1.out.big; omega
      clear hv ME
      by_cases c30 : j < 40
      · obtain ⟨nk, ⟨px, pt, pa, pn, pc, pL⟩, ny, ⟨gx, gt, ga, gn, gc, gL⟩, nlo, nhi, ns⟩ := v
        have HE : k = j := by have h1 := congrArg List.length HC.out; have := HL.out; have := HN.out; simp at h1; omega
        subst HE
        have CT := Lib.hid (show (L.take (min (k + 1) 40)).map (cn 10) = (M ++ [(⟨nk, ⟨px, pt, pa, pn, pc, pL⟩, ny, ⟨gx, gt, ga, gn, gc, gL⟩, nlo, nhi, ns⟩ : Nd)]).map (cn 10) by
          rw [Nat.min_eq_left (by omega), TS.out, List.map_append, List.map_append, HC.out, Nat.min_eq_left (by omega)])
        have KL := Lib.hid (show M.length + 1 = k + 1 by have := HL.out; omega)
        have K2 : Hid (∀ AP kP cP AG kG cG, (M ++ [(⟨nk, ⟨px, pt, AP, kP, cP, pL.take 10⟩, ny, ⟨gx, gt, AG, kG, cG, gL.take 10⟩, nlo, nhi, ns⟩ : Nd)]).length = k + 1 ∧ (M ++ [(⟨nk, ⟨px, pt, AP, kP, cP, pL.take 10⟩, ny, ⟨gx, gt, AG, kG, cG, gL.take 10⟩, nlo, nhi, ns⟩ : Nd)]).map (cn 10) = (M ++ [(⟨nk, ⟨px, pt, pa, pn, pc, pL⟩, ny, ⟨gx, gt, ga, gn, gc, gL⟩, nlo, nhi, ns⟩ : Nd)]).map (cn 10)) := Lib.hid fun AP kP cP AG kG cG => ⟨by rw [List.length_append]; exact KL.out, by
          rw [List.map_append, List.map_append]
          congr 1
          exact congrArg (fun z => [z]) (cn_cut nk px pt pa pn pc pL ny gx gt ga gn gc gL nlo nhi ns AP AG kP cP kG cG)⟩
        have OK := Lib.hid (show (∀ t ∈ pL.take 10, Okt t) ∧ (∀ t ∈ gL.take 10, Okt t) from ⟨fun t ht => HQ.out.1.ok t (List.mem_of_mem_take ht), fun t ht => HQ.out.2.1.ok t (List.mem_of_mem_take ht)⟩)
        have LE := Lib.hid (show (∀ m, (pL.take 10).length = m → m ≤ 10) ∧ (∀ m, (gL.take 10).length = m → m ≤ 10) from ⟨fun m h => by rw [← h, List.length_take]; omega, fun m h => by rw [← h, List.length_take]; omega⟩)
        have RR := Lib.hid (fun (AP : Option Addr) (kP cP : Nat) (l1 : List TT) (AG : Option Addr) (kG cG : Nat) (l2 : List TT) => (⟨HQ.out.2.2.k0, HQ.out.2.2.k1, HQ.out.2.2.l0, HQ.out.2.2.l1, HQ.out.2.2.h0, HQ.out.2.2.h1, HQ.out.2.2.s0, HQ.out.2.2.s1⟩ : Rg ⟨nk, ⟨px, pt, AP, kP, cP, l1⟩, ny, ⟨gx, gt, AG, kG, cG, l2⟩, nlo, nhi, ns⟩))
        have RV := Lib.hid (fun W (hW : Below wr.heap.size wr W) => pred_any px pt pa pn pc pL W HQ.out.1.len HQ.out.1.few (HQ.out.1.row.below hW))
        have RG := Lib.hid (fun W (hW : Below wr.heap.size wr W) => pred_any gx gt ga gn gc gL W HQ.out.2.1.len HQ.out.2.1.few (HQ.out.2.1.row.below hW))
        have SD := Lib.hid (sn_start wr ⟨nk, ⟨px, pt, pa, pn, pc, pL⟩, ny, ⟨gx, gt, ga, gn, gc, gL⟩, nlo, nhi, ns⟩)
        have BW1 : Hid (Below wr.heap.size wr (wr.alloc (xnobj ⟨nk, ⟨px, pt, pa, pn, pc, pL⟩, ny, ⟨gx, gt, ga, gn, gc, gL⟩, nlo, nhi, ns⟩)).drew) := Lib.hid (below_go (below_alloc wr _) (below_drewN _ _ 1))
        have RW := Lib.hid (show ∀ g, (Value.slice A k c').ownBlock = some g → g < wr.heap.size from fun g hg => (R1.out.own.lt g hg).2)
        have HB3 : Hid (w.heap.size + 3 ≤ wr.heap.size) := Lib.hid R1.out.big
        have NE : Hid (w.heap.size + 1 + 1 < wr.heap.size) := Lib.hid zz
        obtain ⟨q0, q1, q2, q3, q4, q5, q6, q7, q8, q9, q10⟩ := hat
        simp only at q0 q1 q2 q3 q4 q5 q6 q7 q8 q9 q10
        clear hj HQ HC HL TS HV
        go_wp2_with fail
        refine wp_region_noPanic ?_
        refine wp_region_held_drew (S := (fun W => W.cell? ⟨wr.heap.size, 0, none⟩ = some (.int .u8 nk) ∧ W.cell? ⟨wr.heap.size, 1, none⟩ = some (.bool px) ∧ W.cell? ⟨wr.heap.size, 2, none⟩ = some (.int .u8 pt) ∧ W.cell? ⟨wr.heap.size, 3, none⟩ = some (.slice pa pn pc) ∧ W.cell? ⟨wr.heap.size, 4, none⟩ = some (.bool ny) ∧ W.cell? ⟨wr.heap.size, 5, none⟩ = some (.bool gx) ∧ W.cell? ⟨wr.heap.size, 6, none⟩ = some (.int .u8 gt) ∧ W.cell? ⟨wr.heap.size, 7, none⟩ = some (.slice ga gn gc) ∧ W.cell? ⟨wr.heap.size, 8, none⟩ = some (.int .u8 nlo) ∧ W.cell? ⟨wr.heap.size, 9, none⟩ = some (.int .u8 nhi) ∧ W.cell? ⟨wr.heap.size, 10, none⟩ = some (.int .i64 ns))) (by kernel_rfl) (by exact SD.out) (fun hHeld0 => ?_)
        refine wpAnyH_take (i := 0) (v := ?_) rfl (by kernel_rfl) (by kernel_rfl) (by kernel_rfl) (fun _ _ _ h => h) (Or.inl ⟨by rfl, ?_⟩) hHeld0 ?_
        rotate_left
        · (intro W hSw; simp only [List.getElem_toArray, List.getElem_cons_zero]; (try dsimp only at hSw); go_simp; with_reducible rfl)
        simp only [List.getElem_toArray, List.getElem_cons_zero, Act.put, List.setIfInBounds_toArray, List.set_cons_zero, List.set_cons_succ]
        refine wpAnyH_take (i := 2) (v := ?_) rfl (by kernel_rfl) (by kernel_rfl) (by kernel_rfl) (fun _ _ _ h => h) (Or.inl ⟨by rfl, ?_⟩) hHeld0 ?_
        rotate_left
        · (intro W hSw; simp only [List.getElem_toArray, List.getElem_cons_succ, List.getElem_cons_zero]; (try dsimp only at hSw); go_simp; with_reducible rfl)
        simp only [List.getElem_toArray, List.getElem_cons_succ, List.getElem_cons_zero, Act.put, List.setIfInBounds_toArray, List.set_cons_zero, List.set_cons_succ]
        refine wpAnyH_take (i := 3) (v := ?_) rfl (by kernel_rfl) (by kernel_rfl) (by kernel_rfl) (fun _ _ _ h => h) (Or.inl ⟨by rfl, ?_⟩) hHeld0 ?_
        rotate_left
        · (intro W hSw; simp only [List.getElem_toArray, List.getElem_cons_succ, List.getElem_cons_zero]; (try dsimp only at hSw); go_simp; with_reducible rfl)
        simp only [List.getElem_toArray, List.getElem_cons_succ, List.getElem_cons_zero, Act.put, List.setIfInBounds_toArray, List.set_cons_zero, List.set_cons_succ]
        refine wpAnyH_take (i := 4) (v := ?_) rfl (by kernel_rfl) (by kernel_rfl) (by kernel_rfl) (fun _ _ _ h => h) (Or.inl ⟨by rfl, ?_⟩) hHeld0 ?_
        rotate_left
        · (intro W hSw; simp only [List.getElem_toArray, List.getElem_cons_succ, List.getElem_cons_zero]; (try dsimp only at hSw); go_simp; with_reducible rfl)
        simp only [List.getElem_toArray, List.getElem_cons_succ, List.getElem_cons_zero, Act.put, List.setIfInBounds_toArray, List.set_cons_zero, List.set_cons_succ]
        refine wpAnyH_take (i := 5) (v := ?_) rfl (by kernel_rfl) (by kernel_rfl) (by kernel_rfl) (fun _ _ _ h => h) (Or.inl ⟨by rfl, ?_⟩) hHeld0 ?_
        rotate_left
        · (intro W hSw; simp only [List.getElem_toArray, List.getElem_cons_succ, List.getElem_cons_zero]; (try dsimp only at hSw); go_simp; with_reducible rfl)
        simp only [List.getElem_toArray, List.getElem_cons_succ, List.getElem_cons_zero, Act.put, List.setIfInBounds_toArray, List.set_cons_zero, List.set_cons_succ]
        refine wpAnyH_take (i := 7) (v := ?_) rfl (by kernel_rfl) (by kernel_rfl) (by kernel_rfl) (fun _ _ _ h => h) (Or.inl ⟨by rfl, ?_⟩) hHeld0 ?_
        rotate_left
        · (intro W hSw; simp only [List.getElem_toArray, List.getElem_cons_succ, List.getElem_cons_zero]; (try dsimp only at hSw); go_simp; with_reducible rfl)
        simp only [List.getElem_toArray, List.getElem_cons_succ, List.getElem_cons_zero, Act.put, List.setIfInBounds_toArray, List.set_cons_zero, List.set_cons_succ]
        refine wpAnyH_take (i := 8) (v := ?_) rfl (by kernel_rfl) (by kernel_rfl) (by kernel_rfl) (fun _ _ _ h => h) (Or.inl ⟨by rfl, ?_⟩) hHeld0 ?_
        rotate_left
        · (intro W hSw; simp only [List.getElem_toArray, List.getElem_cons_succ, List.getElem_cons_zero]; (try dsimp only at hSw); go_simp; with_reducible rfl)
        simp only [List.getElem_toArray, List.getElem_cons_succ, List.getElem_cons_zero, Act.put, List.setIfInBounds_toArray, List.set_cons_zero, List.set_cons_succ]
        refine wpAnyH_take (i := 9) (v := ?_) rfl (by kernel_rfl) (by kernel_rfl) (by kernel_rfl) (fun _ _ _ h => h) (Or.inl ⟨by rfl, ?_⟩) hHeld0 ?_
        rotate_left
        · (intro W hSw; simp only [List.getElem_toArray, List.getElem_cons_succ, List.getElem_cons_zero]; (try dsimp only at hSw); go_simp; with_reducible rfl)
        simp only [List.getElem_toArray, List.getElem_cons_succ, List.getElem_cons_zero, Act.put, List.setIfInBounds_toArray, List.set_cons_zero, List.set_cons_succ]
        refine wpAnyH_take (i := 10) (v := ?_) rfl (by kernel_rfl) (by kernel_rfl) (by kernel_rfl) (fun _ _ _ h => h) (Or.inl ⟨by rfl, ?_⟩) hHeld0 ?_
        rotate_left
        · (intro W hSw; simp only [List.getElem_toArray, List.getElem_cons_succ, List.getElem_cons_zero]; (try dsimp only at hSw); go_simp; with_reducible rfl)
        simp only [List.getElem_toArray, List.getElem_cons_succ, List.getElem_cons_zero, Act.put, List.setIfInBounds_toArray, List.set_cons_zero, List.set_cons_succ]
        refine wpAnyH_take (i := 12) (v := ?_) rfl (by kernel_rfl) (by kernel_rfl) (by kernel_rfl) (fun _ _ _ h => h) (Or.inl ⟨by rfl, ?_⟩) hHeld0 ?_
        rotate_left
        · (intro W hSw; simp only [List.getElem_toArray, List.getElem_cons_succ, List.getElem_cons_zero]; (try dsimp only at hSw); go_simp; with_reducible rfl)
        simp only [List.getElem_toArray, List.getElem_cons_succ, List.getElem_cons_zero, Act.put, List.setIfInBounds_toArray, List.set_cons_zero, List.set_cons_succ]
        refine wpAnyH_take (i := 13) (v := ?_) rfl (by kernel_rfl) (by kernel_rfl) (by kernel_rfl) (fun _ _ _ h => h) (Or.inl ⟨by rfl, ?_⟩) hHeld0 ?_
        rotate_left
        · (intro W hSw; simp only [List.getElem_toArray, List.getElem_cons_succ, List.getElem_cons_zero]; (try dsimp only at hSw); go_simp; with_reducible rfl)
        simp only [List.getElem_toArray, List.getElem_cons_succ, List.getElem_cons_zero, Act.put, List.setIfInBounds_toArray, List.set_cons_zero, List.set_cons_succ]
        refine wpAnyH_take (i := 14) (v := ?_) rfl (by kernel_rfl) (by kernel_rfl) (by kernel_rfl) (fun _ _ _ h => h) (Or.inl ⟨by rfl, ?_⟩) hHeld0 ?_
        rotate_left
        · (intro W hSw; simp only [List.getElem_toArray, List.getElem_cons_succ, List.getElem_cons_zero]; (try dsimp only at hSw); go_simp; with_reducible rfl)
        simp only [List.getElem_toArray, List.getElem_cons_succ, List.getElem_cons_zero, Act.put, List.setIfInBounds_toArray, List.set_cons_zero, List.set_cons_succ]
        refine wpAnyH_take (i := 15) (v := ?_) rfl (by kernel_rfl) (by kernel_rfl) (by kernel_rfl) (fun _ _ _ h => h) (Or.inl ⟨by rfl, ?_⟩) hHeld0 ?_
        rotate_left
        · (intro W hSw; simp only [List.getElem_toArray, List.getElem_cons_succ, List.getElem_cons_zero]; (try dsimp only at hSw); go_simp; with_reducible rfl)
        simp only [List.getElem_toArray, List.getElem_cons_succ, List.getElem_cons_zero, Act.put, List.setIfInBounds_toArray, List.set_cons_zero, List.set_cons_succ]
        refine wpAnyH_take (i := 16) (v := ?_) rfl (by kernel_rfl) (by kernel_rfl) (by kernel_rfl) (fun _ _ _ h => h) (Or.inl ⟨by rfl, ?_⟩) hHeld0 ?_
        rotate_left
        · (intro W hSw; simp only [List.getElem_toArray, List.getElem_cons_succ, List.getElem_cons_zero]; (try dsimp only at hSw); go_simp; with_reducible rfl)
        simp only [List.getElem_toArray, List.getElem_cons_succ, List.getElem_cons_zero, Act.put, List.setIfInBounds_toArray, List.set_cons_zero, List.set_cons_succ]
        refine wpAnyH_take (i := 17) (v := ?_) rfl (by kernel_rfl) (by kernel_rfl) (by kernel_rfl) (fun _ _ _ h => h) (Or.inl ⟨by rfl, ?_⟩) hHeld0 ?_
        rotate_left
        · (intro W hSw; simp only [List.getElem_toArray, List.getElem_cons_succ, List.getElem_cons_zero]; (try dsimp only at hSw); go_simp; with_reducible rfl)
        simp only [List.getElem_toArray, List.getElem_cons_succ, List.getElem_cons_zero, Act.put, List.setIfInBounds_toArray, List.set_cons_zero, List.set_cons_succ]
        refine wpAnyH_ready (rs := [1, 6]) (by kernel_rfl) (by simp) ?_
        refine AllReadyH.cons rfl (fun K hK => ?_) (AllReadyH.cons rfl (fun K hK => ?_) (AllReadyH.nil))
        · (try simp only [List.getElem_toArray, List.getElem_cons_succ, List.getElem_cons_zero])
          go_simp
          refine hK.out _ _ (by exact hHeld0) (fun hHeld1 => ?_)
          clear hK K hHeld0
          refine wpAnyH_ready (rs := [6]) (by kernel_rfl) (by simp) ?_
          refine AllReadyH.cons rfl (fun K hK => ?_) (AllReadyH.nil)
          (try simp only [List.getElem_toArray, List.getElem_cons_succ, List.getElem_cons_zero])
          go_simp
          go_wp2_with (go_at_call 18; refine (RV.out _ BW1.out).mono ?_; rintro e w2 ⟨AP, kP, cP, rfl, hlP, hoP, b2⟩; have R2 := Lib.hid ((R1.out.next (below_alloc wr _)).next ((below_drewN _ _ 1).trans b2)); have BW2 := Lib.hid (below_go BW1.out b2); have OP2 := Lib.hid (hoP.mono (by simp) : OwnT w2 wr.heap.size (.slice AP kP cP) _); have LP := Lib.hid hlP; clear hoP hlP; have e2 := R2.out.loc.c0; have fr2 := R2.out.loc.free 0; have zz2 : w.heap.size + 1 + 1 < w2.heap.size := (by have := R2.out.big; omega))
          refine hK.out _ _ (by exact sn_below (g := wr.heap.size) (n := ⟨nk, ⟨px, pt, pa, pn, pc, pL⟩, ny, ⟨gx, gt, ga, gn, gc, gL⟩, nlo, nhi, ns⟩) b2 hHeld1) (fun hHeld2 => ?_)
          clear hK K hHeld1
          refine wpAnyH_ready (rs := [11]) (by kernel_rfl) (by simp) ?_
          refine AllReadyH.cons rfl (fun K hK => ?_) (AllReadyH.nil)
          (try simp only [List.getElem_toArray, List.getElem_cons_succ, List.getElem_cons_zero])
          go_simp
          go_wp2_with (go_at_call 18; refine (RG.out _ BW2.out).mono ?_; rintro e w3 ⟨AG, kG, cG, rfl, hlG, hoG, b3⟩; have R3 := Lib.hid (R2.out.next b3); have BW3 := Lib.hid (below_go BW2.out b3); have OP3 := Lib.hid (OP2.out.below b3); have OG3 := Lib.hid (hoG.mono BW2.out.size : OwnT w3 wr.heap.size (.slice AG kG cG) _); have LG := Lib.hid hlG; clear hoG hlG; have e3 := R3.out.loc.c0; have fr3 := R3.out.loc.free 0; have zz3 : w.heap.size + 1 + 1 < w3.heap.size := (by have := R3.out.big; omega))
          refine hK.out _ _ (by exact sn_below (g := wr.heap.size) (n := ⟨nk, ⟨px, pt, pa, pn, pc, pL⟩, ny, ⟨gx, gt, ga, gn, gc, gL⟩, nlo, nhi, ns⟩) b3 hHeld2) (fun hHeld3 => ?_)
          clear hK K hHeld2
          refine wpAnyH_take (i := 18) (v := ?_) rfl (by kernel_rfl) (by kernel_rfl) (by kernel_rfl) (fun _ _ _ h => h) (Or.inl ⟨by rfl, ?_⟩) hHeld3 ?_
          rotate_left
          · (intro W hSw; simp only [List.getElem_toArray, List.getElem_cons_succ, List.getElem_cons_zero]; (try dsimp only at hSw); go_simp; with_reducible rfl)
          simp only [List.getElem_toArray, List.getElem_cons_succ, List.getElem_cons_zero, Act.put, List.setIfInBounds_toArray, List.set_cons_zero, List.set_cons_succ]
          refine wpAnyH_ready (rs := [19]) (by kernel_rfl) (by simp) ?_
          refine AllReadyH.cons rfl (fun K hK => ?_) (AllReadyH.nil)
          (try simp only [List.getElem_toArray, List.getElem_cons_succ, List.getElem_cons_zero])
          go_simp
          refine hK.out _ _ (by exact sn_alloc (g := wr.heap.size) (n := ⟨nk, ⟨px, pt, pa, pn, pc, pL⟩, ny, ⟨gx, gt, ga, gn, gc, gL⟩, nlo, nhi, ns⟩) hHeld3) (fun hHeld4 => ?_)
          clear hK K hHeld3
          refine wpAnyH_ready (rs := [20]) (by kernel_rfl) (by simp) ?_
          refine AllReadyH.cons rfl (fun K hK => ?_) (AllReadyH.nil)
          refine step_appn _ (by rfl) (.tmp 20) (.tmp 38) (by rfl) (w.heap.size + 3) _ M (by rfl) (R3.out.own.below (below_alloc _ _)) _ ⟨nk, ⟨px, pt, AP, kP, cP, pL.take 10⟩, ny, ⟨gx, gt, AG, kG, cG, gL.take 10⟩, nlo, nhi, ns⟩ (by rfl) (Atn.alloc w3 ⟨nk, ⟨px, pt, AP, kP, cP, pL.take 10⟩, ny, ⟨gx, gt, AG, kG, cG, gL.take 10⟩, nlo, nhi, ns⟩) ((QB.made OP3.out LP.out (LE.out.1 _ LP.out) OK.out.1 HB3.out RW.out).below (below_alloc _ _)) ((QB.made OG3.out LG.out (LE.out.2 _ LG.out) OK.out.2 HB3.out RW.out).below (below_alloc _ _)) (RR.out _ _ _ _ _ _ _ _) (k + 1) KL.out (by omega) (by have := R3.out.big; simp; omega) ?_; intro A5 c5 w5 hO5 hg5 hb5; have L5 := (R3.out.next (below_alloc _ _)).loc.below hb5 (by omega); have e5 := L5.c0; have fr5 := L5.free 0; have R5 := Lib.hid ((R3.out.next (below_alloc _ _)).step hO5 hb5); clear L5 hO5 hb5
          refine hK.out _ _ (by exact sn_grown (g := wr.heap.size) (n := ⟨nk, ⟨px, pt, pa, pn, pc, pL⟩, ny, ⟨gx, gt, ga, gn, gc, gL⟩, nlo, nhi, ns⟩) hg5 RW hHeld4) (fun hHeld5 => ?_)
          clear hK K hHeld4
          refine wpAnyH_take (i := 21) (v := ?_) rfl (by kernel_rfl) (by kernel_rfl) (by kernel_rfl) (fun _ _ _ h => h) (Or.inl ⟨by rfl, ?_⟩) hHeld5 ?_
          rotate_left
          · (intro W hSw; simp only [List.getElem_toArray, List.getElem_cons_succ, List.getElem_cons_zero]; (try dsimp only at hSw); go_simp; with_reducible rfl)
          simp only [List.getElem_toArray, List.getElem_cons_succ, List.getElem_cons_zero, Act.put, List.setIfInBounds_toArray, List.set_cons_zero, List.set_cons_succ]
          refine wpAnyH_ready (rs := [22]) (by kernel_rfl) (by simp) ?_
          refine AllReadyH.cons rfl (fun K hK => ?_) (AllReadyH.nil)
          (try simp only [List.getElem_toArray, List.getElem_cons_succ, List.getElem_cons_zero])
          go_simp
          refine hK.out _ _ (by exact sn_set (g := wr.heap.size) (n := ⟨nk, ⟨px, pt, pa, pn, pc, pL⟩, ny, ⟨gx, gt, ga, gn, gc, gL⟩, nlo, nhi, ns⟩) NE hHeld5) (fun hHeld6 => ?_)
          clear hK K hHeld5
          refine wpAnyH_done (by kernel_rfl) ?_ _
          refine NoPanic.normal ?_
          clear hHeld6
          clear e5 fr5 e2 fr2 zz2 e3 fr3 zz3 R3 R2 e1 fr zz R1 RV RG SD RW NE KL OP2 OP3 OG3
          rw [← CT.out] at K2
          go_wp2_with fail
          go_roundw
          case rel => exact ⟨k + 1, A5, k + 1, c5, by go_num, by omega, by omega, Lib.hid ⟨_, R5.out, K2.out _ _ _ _ _ _⟩⟩
          case measure => simp [intOf]; omega
        · (try simp only [List.getElem_toArray, List.getElem_cons_succ, List.getElem_cons_zero])
          go_simp
          go_wp2_with (go_at_call 18; refine (RV.out _ BW1.out).mono ?_; rintro e w2 ⟨AP, kP, cP, rfl, hlP, hoP, b2⟩; have R2 := Lib.hid ((R1.out.next (below_alloc wr _)).next ((below_drewN _ _ 1).trans b2)); have BW2 := Lib.hid (below_go BW1.out b2); have OP2 := Lib.hid (hoP.mono (by simp) : OwnT w2 wr.heap.size (.slice AP kP cP) _); have LP := Lib.hid hlP; clear hoP hlP; have e2 := R2.out.loc.c0; have fr2 := R2.out.loc.free 0; have zz2 : w.heap.size + 1 + 1 < w2.heap.size := (by have := R2.out.big; omega))
          refine hK.out _ _ (by exact sn_below (g := wr.heap.size) (n := ⟨nk, ⟨px, pt, pa, pn, pc, pL⟩, ny, ⟨gx, gt, ga, gn, gc, gL⟩, nlo, nhi, ns⟩) b2 hHeld0) (fun hHeld1 => ?_)
          clear hK K hHeld0
          refine wpAnyH_ready (rs := [1, 11]) (by kernel_rfl) (by simp) ?_
          refine AllReadyH.cons rfl (fun K hK => ?_) (AllReadyH.cons rfl (fun K hK => ?_) (AllReadyH.nil))
          · (try simp only [List.getElem_toArray, List.getElem_cons_succ, List.getElem_cons_zero])
            go_simp
            refine hK.out _ _ (by exact hHeld1) (fun hHeld2 => ?_)
            clear hK K hHeld1
            refine wpAnyH_ready (rs := [11]) (by kernel_rfl) (by simp) ?_
            refine AllReadyH.cons rfl (fun K hK => ?_) (AllReadyH.nil)
            (try simp only [List.getElem_toArray, List.getElem_cons_succ, List.getElem_cons_zero])
            go_simp
            go_wp2_with (go_at_call 18; refine (RG.out _ BW2.out).mono ?_; rintro e w3 ⟨AG, kG, cG, rfl, hlG, hoG, b3⟩; have R3 := Lib.hid (R2.out.next b3); have BW3 := Lib.hid (below_go BW2.out b3); have OP3 := Lib.hid (OP2.out.below b3); have OG3 := Lib.hid (hoG.mono BW2.out.size : OwnT w3 wr.heap.size (.slice AG kG cG) _); have LG := Lib.hid hlG; clear hoG hlG; have e3 := R3.out.loc.c0; have fr3 := R3.out.loc.free 0; have zz3 : w.heap.size + 1 + 1 < w3.heap.size := (by have := R3.out.big; omega))
            refine hK.out _ _ (by exact sn_below (g := wr.heap.size) (n := ⟨nk, ⟨px, pt, pa, pn, pc, pL⟩, ny, ⟨gx, gt, ga, gn, gc, gL⟩, nlo, nhi, ns⟩) b3 hHeld2) (fun hHeld3 => ?_)
            clear hK K hHeld2
            refine wpAnyH_take (i := 18) (v := ?_) rfl (by kernel_rfl) (by kernel_rfl) (by kernel_rfl) (fun _ _ _ h => h) (Or.inl ⟨by rfl, ?_⟩) hHeld3 ?_
            rotate_left
            · (intro W hSw; simp only [List.getElem_toArray, List.getElem_cons_succ, List.getElem_cons_zero]; (try dsimp only at hSw); go_simp; with_reducible rfl)
            simp only [List.getElem_toArray, List.getElem_cons_succ, List.getElem_cons_zero, Act.put, List.setIfInBounds_toArray, List.set_cons_zero, List.set_cons_succ]
            refine wpAnyH_ready (rs := [19]) (by kernel_rfl) (by simp) ?_
            refine AllReadyH.cons rfl (fun K hK => ?_) (AllReadyH.nil)
            (try simp only [List.getElem_toArray, List.getElem_cons_succ, List.getElem_cons_zero])
            go_simp
            refine hK.out _ _ (by exact sn_alloc (g := wr.heap.size) (n := ⟨nk, ⟨px, pt, pa, pn, pc, pL⟩, ny, ⟨gx, gt, ga, gn, gc, gL⟩, nlo, nhi, ns⟩) hHeld3) (fun hHeld4 => ?_)
            clear hK K hHeld3
            refine wpAnyH_ready (rs := [20]) (by kernel_rfl) (by simp) ?_
            refine AllReadyH.cons rfl (fun K hK => ?_) (AllReadyH.nil)
            refine step_appn _ (by rfl) (.tmp 20) (.tmp 38) (by rfl) (w.heap.size + 3) _ M (by rfl) (R3.out.own.below (below_alloc _ _)) _ ⟨nk, ⟨px, pt, AP, kP, cP, pL.take 10⟩, ny, ⟨gx, gt, AG, kG, cG, gL.take 10⟩, nlo, nhi, ns⟩ (by rfl) (Atn.alloc w3 ⟨nk, ⟨px, pt, AP, kP, cP, pL.take 10⟩, ny, ⟨gx, gt, AG, kG, cG, gL.take 10⟩, nlo, nhi, ns⟩) ((QB.made OP3.out LP.out (LE.out.1 _ LP.out) OK.out.1 HB3.out RW.out).below (below_alloc _ _)) ((QB.made OG3.out LG.out (LE.out.2 _ LG.out) OK.out.2 HB3.out RW.out).below (below_alloc _ _)) (RR.out _ _ _ _ _ _ _ _) (k + 1) KL.out (by omega) (by have := R3.out.big; simp; omega) ?_; intro A5 c5 w5 hO5 hg5 hb5; have L5 := (R3.out.next (below_alloc _ _)).loc.below hb5 (by omega); have e5 := L5.c0; have fr5 := L5.free 0; have R5 := Lib.hid ((R3.out.next (below_alloc _ _)).step hO5 hb5); clear L5 hO5 hb5
            refine hK.out _ _ (by exact sn_grown (g := wr.heap.size) (n := ⟨nk, ⟨px, pt, pa, pn, pc, pL⟩, ny, ⟨gx, gt, ga, gn, gc, gL⟩, nlo, nhi, ns⟩) hg5 RW hHeld4) (fun hHeld5 => ?_)
            clear hK K hHeld4
            refine wpAnyH_take (i := 21) (v := ?_) rfl (by kernel_rfl) (by kernel_rfl) (by kernel_rfl) (fun _ _ _ h => h) (Or.inl ⟨by rfl, ?_⟩) hHeld5 ?_
            rotate_left
            · (intro W hSw; simp only [List.getElem_toArray, List.getElem_cons_succ, List.getElem_cons_zero]; (try dsimp only at hSw); go_simp; with_reducible rfl)
            simp only [List.getElem_toArray, List.getElem_cons_succ, List.getElem_cons_zero, Act.put, List.setIfInBounds_toArray, List.set_cons_zero, List.set_cons_succ]
            refine wpAnyH_ready (rs := [22]) (by kernel_rfl) (by simp) ?_
            refine AllReadyH.cons rfl (fun K hK => ?_) (AllReadyH.nil)
            (try simp only [List.getElem_toArray, List.getElem_cons_succ, List.getElem_cons_zero])
            go_simp
            refine hK.out _ _ (by exact sn_set (g := wr.heap.size) (n := ⟨nk, ⟨px, pt, pa, pn, pc, pL⟩, ny, ⟨gx, gt, ga, gn, gc, gL⟩, nlo, nhi, ns⟩) NE hHeld5) (fun hHeld6 => ?_)
            clear hK K hHeld5
            refine wpAnyH_done (by kernel_rfl) ?_ _
            refine NoPanic.normal ?_
            clear hHeld6
            clear e5 fr5 e2 fr2 zz2 e3 fr3 zz3 R3 R2 e1 fr zz R1 RV RG SD RW NE KL OP2 OP3 OG3
            rw [← CT.out] at K2
            go_wp2_with fail
            go_roundw
            case rel => exact ⟨k + 1, A5, k + 1, c5, by go_num, by omega, by omega, Lib.hid ⟨_, R5.out, K2.out _ _ _ _ _ _⟩⟩
            case measure => simp [intOf]; omega
          · (try simp only [List.getElem_toArray, List.getElem_cons_succ, List.getElem_cons_zero])
            go_simp
            go_wp2_with (go_at_call 18; refine (RG.out _ BW2.out).mono ?_; rintro e w3 ⟨AG, kG, cG, rfl, hlG, hoG, b3⟩; have R3 := Lib.hid (R2.out.next b3); have BW3 := Lib.hid (below_go BW2.out b3); have OP3 := Lib.hid (OP2.out.below b3); have OG3 := Lib.hid (hoG.mono BW2.out.size : OwnT w3 wr.heap.size (.slice AG kG cG) _); have LG := Lib.hid hlG; clear hoG hlG; have e3 := R3.out.loc.c0; have fr3 := R3.out.loc.free 0; have zz3 : w.heap.size + 1 + 1 < w3.heap.size := (by have := R3.out.big; omega))
            refine hK.out _ _ (by exact sn_below (g := wr.heap.size) (n := ⟨nk, ⟨px, pt, pa, pn, pc, pL⟩, ny, ⟨gx, gt, ga, gn, gc, gL⟩, nlo, nhi, ns⟩) b3 hHeld1) (fun hHeld2 => ?_)
            clear hK K hHeld1
            refine wpAnyH_take (i := 18) (v := ?_) rfl (by kernel_rfl) (by kernel_rfl) (by kernel_rfl) (fun _ _ _ h => h) (Or.inl ⟨by rfl, ?_⟩) hHeld2 ?_
            rotate_left
            · (intro W hSw; simp only [List.getElem_toArray, List.getElem_cons_succ, List.getElem_cons_zero]; (try dsimp only at hSw); go_simp; with_reducible rfl)
            simp only [List.getElem_toArray, List.getElem_cons_succ, List.getElem_cons_zero, Act.put, List.setIfInBounds_toArray, List.set_cons_zero, List.set_cons_succ]
            refine wpAnyH_ready (rs := [1, 19]) (by kernel_rfl) (by simp) ?_
            refine AllReadyH.cons rfl (fun K hK => ?_) (AllReadyH.cons rfl (fun K hK => ?_) (AllReadyH.nil))
            · (try simp only [List.getElem_toArray, List.getElem_cons_succ, List.getElem_cons_zero])
              go_simp
              refine hK.out _ _ (by exact hHeld2) (fun hHeld3 => ?_)
              clear hK K hHeld2
              refine wpAnyH_ready (rs := [19]) (by kernel_rfl) (by simp) ?_
              refine AllReadyH.cons rfl (fun K hK => ?_) (AllReadyH.nil)
              (try simp only [List.getElem_toArray, List.getElem_cons_succ, List.getElem_cons_zero])
              go_simp
              refine hK.out _ _ (by exact sn_alloc (g := wr.heap.size) (n := ⟨nk, ⟨px, pt, pa, pn, pc, pL⟩, ny, ⟨gx, gt, ga, gn, gc, gL⟩, nlo, nhi, ns⟩) hHeld3) (fun hHeld4 => ?_)
              clear hK K hHeld3
              refine wpAnyH_ready (rs := [20]) (by kernel_rfl) (by simp) ?_
              refine AllReadyH.cons rfl (fun K hK => ?_) (AllReadyH.nil)
              refine step_appn _ (by rfl) (.tmp 20) (.tmp 38) (by rfl) (w.heap.size + 3) _ M (by rfl) (R3.out.own.below (below_alloc _ _)) _ ⟨nk, ⟨px, pt, AP, kP, cP, pL.take 10⟩, ny, ⟨gx, gt, AG, kG, cG, gL.take 10⟩, nlo, nhi, ns⟩ (by rfl) (Atn.alloc w3 ⟨nk, ⟨px, pt, AP, kP, cP, pL.take 10⟩, ny, ⟨gx, gt, AG, kG, cG, gL.take 10⟩, nlo, nhi, ns⟩) ((QB.made OP3.out LP.out (LE.out.1 _ LP.out) OK.out.1 HB3.out RW.out).below (below_alloc _ _)) ((QB.made OG3.out LG.out (LE.out.2 _ LG.out) OK.out.2 HB3.out RW.out).below (below_alloc _ _)) (RR.out _ _ _ _ _ _ _ _) (k + 1) KL.out (by omega) (by have := R3.out.big; simp; omega) ?_; intro A5 c5 w5 hO5 hg5 hb5; have L5 := (R3.out.next (below_alloc _ _)).loc.below hb5 (by omega); have e5 := L5.c0; have fr5 := L5.free 0; have R5 := Lib.hid ((R3.out.next (below_alloc _ _)).step hO5 hb5); clear L5 hO5 hb5
              refine hK.out _ _ (by exact sn_grown (g := wr.heap.size) (n := ⟨nk, ⟨px, pt, pa, pn, pc, pL⟩, ny, ⟨gx, gt, ga, gn, gc, gL⟩, nlo, nhi, ns⟩) hg5 RW hHeld4) (fun hHeld5 => ?_)
              clear hK K hHeld4
              refine wpAnyH_take (i := 21) (v := ?_) rfl (by kernel_rfl) (by kernel_rfl) (by kernel_rfl) (fun _ _ _ h => h) (Or.inl ⟨by rfl, ?_⟩) hHeld5 ?_
              rotate_left
              · (intro W hSw; simp only [List.getElem_toArray, List.getElem_cons_succ, List.getElem_cons_zero]; (try dsimp only at hSw); go_simp; with_reducible rfl)
              simp only [List.getElem_toArray, List.getElem_cons_succ, List.getElem_cons_zero, Act.put, List.setIfInBounds_toArray, List.set_cons_zero, List.set_cons_succ]
              refine wpAnyH_ready (rs := [22]) (by kernel_rfl) (by simp) ?_
              refine AllReadyH.cons rfl (fun K hK => ?_) (AllReadyH.nil)
              (try simp only [List.getElem_toArray, List.getElem_cons_succ, List.getElem_cons_zero])
              go_simp
              refine hK.out _ _ (by exact sn_set (g := wr.heap.size) (n := ⟨nk, ⟨px, pt, pa, pn, pc, pL⟩, ny, ⟨gx, gt, ga, gn, gc, gL⟩, nlo, nhi, ns⟩) NE hHeld5) (fun hHeld6 => ?_)
              clear hK K hHeld5
              refine wpAnyH_done (by kernel_rfl) ?_ _
              refine NoPanic.normal ?_
              clear hHeld6
              clear e5 fr5 e2 fr2 zz2 e3 fr3 zz3 R3 R2 e1 fr zz R1 RV RG SD RW NE KL OP2 OP3 OG3
              rw [← CT.out] at K2
              go_wp2_with fail
              go_roundw
              case rel => exact ⟨k + 1, A5, k + 1, c5, by go_num, by omega, by omega, Lib.hid ⟨_, R5.out, K2.out _ _ _ _ _ _⟩⟩
              case measure => simp [intOf]; omega
            · (try simp only [List.getElem_toArray, List.getElem_cons_succ, List.getElem_cons_zero])
              go_simp
              refine hK.out _ _ (by exact sn_alloc (g := wr.heap.size) (n := ⟨nk, ⟨px, pt, pa, pn, pc, pL⟩, ny, ⟨gx, gt, ga, gn, gc, gL⟩, nlo, nhi, ns⟩) hHeld2) (fun hHeld3 => ?_)
              clear hK K hHeld2
              refine wpAnyH_ready (rs := [1]) (by kernel_rfl) (by simp) ?_
              refine AllReadyH.cons rfl (fun K hK => ?_) (AllReadyH.nil)
              (try simp only [List.getElem_toArray, List.getElem_cons_succ, List.getElem_cons_zero])
              go_simp
              refine hK.out _ _ (by exact hHeld3) (fun hHeld4 => ?_)
              clear hK K hHeld3
              refine wpAnyH_ready (rs := [20]) (by kernel_rfl) (by simp) ?_
              refine AllReadyH.cons rfl (fun K hK => ?_) (AllReadyH.nil)
              refine step_appn _ (by rfl) (.tmp 20) (.tmp 38) (by rfl) (w.heap.size + 3) _ M (by rfl) (R3.out.own.below (below_alloc _ _)) _ ⟨nk, ⟨px, pt, AP, kP, cP, pL.take 10⟩, ny, ⟨gx, gt, AG, kG, cG, gL.take 10⟩, nlo, nhi, ns⟩ (by rfl) (Atn.alloc w3 ⟨nk, ⟨px, pt, AP, kP, cP, pL.take 10⟩, ny, ⟨gx, gt, AG, kG, cG, gL.take 10⟩, nlo, nhi, ns⟩) ((QB.made OP3.out LP.out (LE.out.1 _ LP.out) OK.out.1 HB3.out RW.out).below (below_alloc _ _)) ((QB.made OG3.out LG.out (LE.out.2 _ LG.out) OK.out.2 HB3.out RW.out).below (below_alloc _ _)) (RR.out _ _ _ _ _ _ _ _) (k + 1) KL.out (by omega) (by have := R3.out.big; simp; omega) ?_; intro A5 c5 w5 hO5 hg5 hb5; have L5 := (R3.out.next (below_alloc _ _)).loc.below hb5 (by omega); have e5 := L5.c0; have fr5 := L5.free 0; have R5 := Lib.hid ((R3.out.next (below_alloc _ _)).step hO5 hb5); clear L5 hO5 hb5
              refine hK.out _ _ (by exact sn_grown (g := wr.heap.size) (n := ⟨nk, ⟨px, pt, pa, pn, pc, pL⟩, ny, ⟨gx, gt, ga, gn, gc, gL⟩, nlo, nhi, ns⟩) hg5 RW hHeld4) (fun hHeld5 => ?_)
              clear hK K hHeld4
              refine wpAnyH_take (i := 21) (v := ?_) rfl (by kernel_rfl) (by kernel_rfl) (by kernel_rfl) (fun _ _ _ h => h) (Or.inl ⟨by rfl, ?_⟩) hHeld5 ?_
              rotate_left
              · (intro W hSw; simp only [List.getElem_toArray, List.getElem_cons_succ, List.getElem_cons_zero]; (try dsimp only at hSw); go_simp; with_reducible rfl)
              simp only [List.getElem_toArray, List.getElem_cons_succ, List.getElem_cons_zero, Act.put, List.setIfInBounds_toArray, List.set_cons_zero, List.set_cons_succ]
              refine wpAnyH_ready (rs := [22]) (by kernel_rfl) (by simp) ?_
              refine AllReadyH.cons rfl (fun K hK => ?_) (AllReadyH.nil)
              (try simp only [List.getElem_toArray, List.getElem_cons_succ, List.getElem_cons_zero])
              go_simp
              refine hK.out _ _ (by exact sn_set (g := wr.heap.size) (n := ⟨nk, ⟨px, pt, pa, pn, pc, pL⟩, ny, ⟨gx, gt, ga, gn, gc, gL⟩, nlo, nhi, ns⟩) NE hHeld5) (fun hHeld6 => ?_)
              clear hK K hHeld5
              refine wpAnyH_done (by kernel_rfl) ?_ _
              refine NoPanic.normal ?_
              clear hHeld6
              clear e5 fr5 e2 fr2 zz2 e3 fr3 zz3 R3 R2 e1 fr zz R1 RV RG SD RW NE KL OP2 OP3 OG3
              rw [← CT.out] at K2
              go_wp2_with fail
              go_roundw
              case rel => exact ⟨k + 1, A5, k + 1, c5, by go_num, by omega, by omega, Lib.hid ⟨_, R5.out, K2.out _ _ _ _ _ _⟩⟩
              case measure => simp [intOf]; omega
      · have TS2 := Lib.hid (show L.take (min (j + 1) 40) = L.take (min j 40) by rw [Nat.min_eq_right (by omega), Nat.min_eq_right (by omega)])
        rw [← TS2.out] at HC
        clear TS2 TS HQ
        obtain ⟨nk, ⟨px, pt, pa, pn, pc, pL⟩, ny, ⟨gx, gt, ga, gn, gc, gL⟩, nlo, nhi, ns⟩ := v
        obtain ⟨q0, q1, q2, q3, q4, q5, q6, q7, q8, q9, q10⟩ := hat
        simp only at q0 q1 q2 q3 q4 q5 q6 q7 q8 q9 q10
        have R2 := Lib.hid (R1.out.next (below_alloc wr (xnobj ⟨nk, ⟨px, pt, pa, pn, pc, pL⟩, ny, ⟨gx, gt, ga, gn, gc, gL⟩, nlo, nhi, ns⟩)))
        go_wp2_with fail
        go_roundw
        case rel => exact ⟨j + 1, A, k, c', by go_num, by omega, by omega, Lib.hid ⟨M, R2.out, HL.out, HC.out⟩⟩
        case measure => simp [intOf]; omega
    · obtain rfl : j = n := by omega
      have TT' := Lib.hid (show L.take (min j 40) = L.take 40 by
        rcases Nat.lt_or_ge j 40 with h | h
        · rw [Nat.min_eq_left (by omega), List.take_of_length_le (by have := HN.out; omega), List.take_of_length_le (by have := HN.out; omega)]
        · rw [Nat.min_eq_right (by omega)])
      rw [TT'.out] at HC
      have e0 := R1.out.loc.c0
      have e1 := R1.out.loc.c1
      have r0 := R1.out.res.c0
      have r1 := R1.out.res.c1
      have f0 := R1.out.res.free 0
      have f1 := R1.out.res.free 1
      have zz : w.heap.size + 1 < wr.heap.size := by have := R1.out.big; omega
      have BB : Hid (Below w.heap.size w ((wr.setCell ⟨w.heap.size + 1, 0, none⟩ (.slice A k c')).setCell ⟨w.heap.size + 1, 1, none⟩ (.int .u64 win))) := Lib.hid (((R1.out.bel).setCell (by show w.heap.size ≤ w.heap.size + 1; omega) _).setCell (by show w.heap.size ≤ w.heap.size + 1; omega) _)
      have OO := Lib.hid (((R1.out.own.set (w.heap.size + 1) 0 (by omega) (.slice A k c')).set (w.heap.size + 1) 1 (by omega) (.int .u64 win)).mono (show w.heap.size ≤ _ by omega))
      clear R1 TT' HV HN
      go_wp2_with fail
      exact bodyPost_ret (v := ptv A k c' win) (by simp [results, Tryd.results5, go_sem, *]) rfl ⟨A, k, c', M, rfl, HL.out, HC.out, OO.out, BB.out⟩
end Go.Proofs.YtnjndlbhnkhlhaaDoor
