/- The heap's Swap: two entries change their places, and the map tells it. -/
import Derived.Test.YtnomegopjdgbjaaDuMem
import Derived.Handy
import Derived.BigRegion
import Derived.RegionTactic
import Derived.ChangeAlike
import Derived.BigQuiet
import Derived.Deep.QuietTactic
import Derived.Deep.RegionHeld3
namespace Go.Proofs.Ytnomegopjdgbjaa
open Go Go.RowKit
set_option maxRecDepth 20000

set_option maxHeartbeats 4000000 in
theorem swap_any {w : World} {d m : Nat} {v : Value} {L : List E} {N : Nat} {M : Nat → Option Nat} (h : Du w d m v L N M) (hp : Pos M L) (i j : Nat) (hi : i < L.length) (hj : j < L.length) (hne : i ≠ j) (hlen : L.length ≤ 1000000) (hN : N ≤ 1000000) :
    Calls Try.prog 48 #[.pointer (some ⟨d, 0, none⟩), .int .i64 (i : Int), .int .i64 (j : Int)] w fun e w' => e = .returned (.tuple #[]) ∧
      ∃ M', Du w' d m v (swp L i j) N M' ∧ Pos M' (swp L i j) ∧ Keep (Fp d m v) w w' := by
  obtain ⟨b, c, cur, rfl, _, hh, _⟩ := h.row.block (by omega)
  obtain ⟨hbd, hbm⟩ := h.ned (b := b) rfl
  obtain ⟨A, c', e, hpr, _⟩ := h.row.form
  injection e with e ea eb
  clear ea eb
  subst e
  obtain ⟨b', off', e', ci, di⟩ := hpr i hi
  injection e' with e'
  injection e' with e1 e2
  subst e1 e2
  obtain ⟨b', off', e', cj, dj⟩ := hpr j hj
  injection e' with e'
  injection e' with e1 e2
  subst e1 e2
  simp only [Nat.zero_add] at ci di cj dj
  obtain ⟨oi, oi2⟩ := h.ok _ (g_mem L i hi)
  obtain ⟨oj, oj2⟩ := h.ok _ (g_mem L j hj)
  have hki := hp.at_ i hi
  have hkj := hp.at_ j hj
  have hkne : (g L i).1 ≠ (g L j).1 := fun e => hne (hp.inj hi hj e)
  obtain ⟨W1, hW1⟩ : ∃ W1, (((((w.setCell ⟨b, i * 2, none⟩ (.int .u64 ((g L j).1 : Int))).setCell ⟨b, i * 2 + 1, none⟩ (.int .u64 ((g L j).2 : Int))).setCell ⟨b, j * 2, none⟩ (.int .u64 ((g L i).1 : Int))).setCell ⟨b, j * 2 + 1, none⟩ (.int .u64 ((g L i).2 : Int))).drew) = W1 := ⟨_, rfl⟩
  have hrow : OwnE 61 W1 0 (.slice (some ⟨b, 0, none⟩) L.length c) (swp L i j) := by
    rw [← hW1]
    exact (h.row.set hi (g L j)).set (by rw [List.length_set]; exact hj) (g L i)
  have hk1 : Keep (fun k => k = b) w W1 := by
    rw [← hW1]
    refine Keep.drew ?_
    exact (((Keep.set (fun k => k = b) _ _ _ rfl).tr (Keep.set (fun k => k = b) _ _ _ rfl)).tr (Keep.set (fun k => k = b) _ _ _ rfl)).tr (Keep.set (fun k => k = b) _ _ _ rfl)
  have hd1 : Du W1 d m (.slice (some ⟨b, 0, none⟩) L.length c) (swp L i j) N M :=
    ⟨(hk1.block d (h.lt d (.inl rfl)) (Ne.symm hbd)).trans h.blk, hrow, h.mp.same (hk1.block m h.mp.lt (Ne.symm hbm)), fun x hx => h.ok x ((swp_perm L i j hi hj).mem_iff.1 hx)⟩
  have hm1 : Mp W1.drew m N M := hd1.mp
  obtain ⟨u1, st1, E1, S1a⟩ := hm1.entry oj (by rw [hkj]; rfl)
  obtain ⟨W2, P1, hm2, ht2⟩ := hm1.put (i := i) oj (by omega) hN
  rw [hkj] at hm2
  have hki2 : (upd M (g L j).1 (some i)) (g L i).1 = some i := by simp [upd, hkne, hki]
  obtain ⟨u2, st2, E2, S2a⟩ := hm2.entry oi (by rw [hki2]; rfl)
  obtain ⟨W3, P2, hm3, ht3⟩ := hm2.put (i := j) oi (by omega) (by simpa using hN)
  rw [hki2] at hm3
  have S1 := (S1a (.int .i64 (i : Int))).trans P1
  have S2 := (S2a (.int .i64 (j : Int))).trans P2
  clear P1 P2 S1a S2a
  have hk2 : Keep (fun k => k = m) W1 W2 := (Keep.turned (F := fun k => k = m) ht2 rfl).undrew
  have hk3 : Keep (fun k => k = m) W2 W3 := Keep.turned (F := fun k => k = m) ht3 rfl
  have hn3 : Keep (Fp d m (.slice (some ⟨b, 0, none⟩) L.length c)) w W3 :=
    ((hk1.wide (F' := Fp d m (.slice (some ⟨b, 0, none⟩) L.length c)) (fun k _ e => .inr (.inr (by rw [e]; rfl)))).trans hk2 (fun k _ e => .inr (.inl e))).trans hk3 (fun k _ e => .inr (.inl e))
  have hk13 := hk2.tr hk3
  have hd3 : Du W3 d m (.slice (some ⟨b, 0, none⟩) L.length c) (swp L i j) N (upd (upd M (g L j).1 (some i)) (g L i).1 (some j)) :=
    ⟨(hk13.block d (hd1.lt d (.inl rfl)) hd1.ne).trans hd1.blk, hd1.row.keep hk13 (fun k hk e => hbm (by rw [← e]; simpa [Value.ownBlock] using hk)), by simpa using hm3, hd1.ok⟩
  have HR : Hid (∃ M', Du W3 d m (.slice (some ⟨b, 0, none⟩) L.length c) (swp L i j) N M' ∧ Pos M' (swp L i j) ∧ Keep (Fp d m (.slice (some ⟨b, 0, none⟩) L.length c)) w W3) := ⟨_, hd3, hp.swp hi hj hne, hn3⟩
  have c0 := h.c0
  have c1 := h.c1
  have fi : w.frozen? ⟨b, i * 2, none⟩ = false := OwnE.free hh
  have gi : w.frozen? ⟨b, i * 2 + 1, none⟩ = false := OwnE.free hh
  have fj : w.frozen? ⟨b, j * 2, none⟩ = false := OwnE.free hh
  have gj : w.frozen? ⟨b, j * 2 + 1, none⟩ = false := OwnE.free hh
  obtain ⟨c0', c1'⟩ := And.intro hd1.c0 hd1.c1
  obtain ⟨A, c', e, hpr, _⟩ := hd1.row.form
  injection e with e ea eb
  clear ea eb
  subst e
  obtain ⟨b', off', e', ci', _⟩ := hpr i (by rw [swp_len]; exact hi)
  injection e' with e'
  injection e' with e1 e2
  subst e1 e2
  obtain ⟨b', off', e', cj', _⟩ := hpr j (by rw [swp_len]; exact hj)
  injection e' with e'
  injection e' with e1 e2
  subst e1 e2
  simp only [Nat.zero_add] at ci' cj'
  rw [g_swp L i j hi hj, if_neg hne, if_pos rfl] at ci'
  rw [g_swp L i j hi hj, if_pos rfl] at cj'
  have H1 : Hid (W1.cell? ⟨d, 0, none⟩ = some (.slice (some ⟨b, 0, none⟩) L.length c) ∧ W1.cell? ⟨d, 1, none⟩ = some (.map (some m)) ∧ W1.cell? ⟨b, i * 2, none⟩ = some (.int .u64 ((g L j).1 : Int)) ∧ W1.cell? ⟨b, j * 2, none⟩ = some (.int .u64 ((g L i).1 : Int))) := ⟨c0', c1', ci', cj'⟩
  have H2 : Hid (W2.cell? ⟨d, 0, none⟩ = some (.slice (some ⟨b, 0, none⟩) L.length c) ∧ W2.cell? ⟨d, 1, none⟩ = some (.map (some m)) ∧ W2.cell? ⟨b, i * 2, none⟩ = some (.int .u64 ((g L j).1 : Int)) ∧ W2.cell? ⟨b, j * 2, none⟩ = some (.int .u64 ((g L i).1 : Int))) :=
    ⟨hk2.cell c0' hd1.ne, hk2.cell c1' hd1.ne, hk2.cell ci' hbm, hk2.cell cj' hbm⟩
  have H3 : Hid (W3.cell? ⟨d, 0, none⟩ = some (.slice (some ⟨b, 0, none⟩) L.length c) ∧ W3.cell? ⟨d, 1, none⟩ = some (.map (some m)) ∧ W3.cell? ⟨b, i * 2, none⟩ = some (.int .u64 ((g L j).1 : Int)) ∧ W3.cell? ⟨b, j * 2, none⟩ = some (.int .u64 ((g L i).1 : Int))) :=
    ⟨hk13.cell c0' hd1.ne, hk13.cell c1' hd1.ne, hk13.cell ci' hbm, hk13.cell cj' hbm⟩
  have HE := Lib.hid E1
  have HS := Lib.hid S1
  have HE2 := Lib.hid E2
  have HS2 := Lib.hid S2
  have HW := Lib.hid hW1
  have hi' : (i : Int) < (L.length : Int) := by omega
  have hj' : (j : Int) < (L.length : Int) := by omega
  have hdb : d ≠ b := Ne.symm hbd
  clear E1 S1 E2 S2 hW1 c0' c1' ci' cj' hpr hd1 hd3 hn3 hk1 hk2 hk3 hk13 hrow hm1 hm2 hm3 ht2 ht3 hki hkj hki2 h hh hp hbd hkne oi oi2 oj oj2
  generalize (g L i).1 = ki at *
  generalize (g L i).2 = ai at *
  generalize (g L j).1 = kj at *
  generalize (g L j).2 = aj at *
  generalize hn : L.length = n at *
  have HN := Lib.hid hn
  clear hn
  have hi0 : (0 : Int) ≤ (i : Int) := by omega
  have hj0 : (0 : Int) ≤ (j : Int) := by omega
  go_enter Try.func48, Try.ntmps48
  go_wp2
  go_region
  go_wp2
  rw [HW.out]
  clear ci di cj dj fi gi fj gj c0 c1
  obtain ⟨c0, c1, ci, cj⟩ := H1.out
  obtain ⟨c0', c1', ci', cj'⟩ := H2.out
  have E1 := HE.out
  have E2 := HE2.out
  have S1 := HS.out
  have S2 := HS2.out
  go_region_held3 (fun W => W.cell? ⟨d, 0, none⟩ = some (.slice (some ⟨b, 0, none⟩) n c) ∧ W.cell? ⟨d, 1, none⟩ = some (.map (some m)) ∧ W.cell? ⟨b, i * 2, none⟩ = some (.int .u64 (kj : Int)) ∧ W.cell? ⟨b, j * 2, none⟩ = some (.int .u64 (ki : Int))) (first | exact ⟨c0, c1, ci, cj⟩ | exact ⟨c0', c1', ci', cj'⟩ | exact H3.out) (fail)
  all_goals (try go_wp2)
  all_goals go_end0
  all_goals exact ⟨rfl, HR.out⟩
end Go.Proofs.Ytnomegopjdgbjaa
