/- The contracts of the document's Get and Scan. -/
import Derived.Test.YteiajbeoglmmmaaDoorRcI
namespace Go.Proofs.YteiajbeoglmmmaaDoor
open Go Go.RowKit Crc
set_option maxRecDepth 20000

theorem eqb_false {a b : ByteArray} (h : a ≠ b) : (a.toList == b.toList) = false := by
  rw [ByteArray.toList_eq, ByteArray.toList_eq]
  simp only [beq_eq_false_iff_ne]
  exact fun e => h (by cases a; cases b; congr 1; exact Array.ext' (by simpa using e))
theorem run_cut (a : Option Addr) (len cap k h : Nat) (hk : k ≤ h) (hh : h ≤ cap) (x y : Int) (hx : x = (k : Int)) (hy : y = (h : Int)) (w : World) :
    (Instr.slice 22 (.slice a len cap) (some (.int .i64 x)) (some (.int .i64 y)) none).run Tryd.prog w = .ok (.slice (if cap = k then a else a.map (·.add k)) (h - k) (cap - k)) w := by
  subst hx hy
  have ts : Tryd.t5.size = 1 := by kernel_rfl
  rw [run_slice_lh (P := Tryd.prog) (w := w) 22 a len cap (by rw [elem22]; exact Tryd.underlying22) .i64 .i64 (k : Int) (h : Int) (by omega) (by omega) (by omega), elem22]
  simp [sizeOf, go_sem, ts]
theorem byt_sliced {w : World} {a : Option Addr} {l : List Int} (hb : Byt w a l) (cap k n : Nat) (hc : l.length ≤ cap) (h : k + n ≤ l.length) : Byt w (if cap = k then a else a.map (·.add k)) ((l.drop k).take n) := by
  by_cases e : cap = k
  · rw [if_pos e]
    have : (l.drop k).take n = [] := List.eq_nil_of_length_eq_zero (by rw [List.length_take, List.length_drop]; omega)
    rw [this]
    exact ⟨fun i hi => absurd hi (by simp), by simp⟩
  · rw [if_neg e]
    rcases Nat.eq_zero_or_pos n with hn | hn
    · subst hn
      exact ⟨fun i hi => absurd hi (by simp), by simp⟩
    · obtain ⟨b, off, rfl, _⟩ := hb.1 0 (by omega)
      rw [Option.map_some, add_plain]
      exact byt_cut hb k n h
set_option maxHeartbeats 400000 in
theorem rget_out (a : Option Addr) (len cap : Nat) (p : Int) (w : World) (h : p < 0 ∨ (len : Int) < p) :
    Calls Tryd.prog 12 #[.slice a len cap, .int .i64 p] w fun e w' => ∃ A, e = .returned (.tuple #[.slice A 0 0, .int .i64 0, .int .i64 3]) ∧ Below w.heap.size w w' := by
  by_cases h0 : p < 0
  · have d0 : decide (p < 0) = true := by simp; omega
    clear h
    go_enter Tryd.func12, Tryd.ntmps12
    go_wp2_with fail
    go_ret3
    exact ⟨_, rfl, below_alloc _ _⟩
  · have d0 : decide (p < 0) = false := by simp; omega
    have d1 : decide ((len : Int) < p) = true := by simp; omega
    have h1 : (len : Int) < p := by omega
    clear h h0
    go_enter Tryd.func12, Tryd.ntmps12
    go_wp2_with fail
    go_ret3
    exact ⟨_, rfl, below_alloc _ _⟩
set_option maxHeartbeats 400000 in
theorem rget_four (a : Option Addr) (len cap k : Nat) (w : World) (h : k ≤ len) (h4 : len < k + 4) :
    Calls Tryd.prog 12 #[.slice a len cap, .int .i64 (k : Int)] w fun e w' => ∃ A, e = .returned (.tuple #[.slice A 0 0, .int .i64 0, .int .i64 3]) ∧ Below w.heap.size w w' := by
  have d0 : decide ((k : Int) < 0) = false := by simp
  have dk : decide (len < k) = false := by simp; omega
  have dk' : decide ((len : Int) < (k : Int)) = false := by simp; omega
  have d4 : decide ((len : Int) - (k : Int) < 4) = true := by simp; omega
  go_enter Tryd.func12, Tryd.ntmps12
  go_wp2_with fail
  go_ret3
  exact ⟨_, rfl, below_alloc _ _⟩
set_option maxHeartbeats 2000000 in
theorem rget_long (a : Option Addr) (len cap : Nat) (l : List Int) (k : Nat) (w : World) (hl : l.length = len) (hm : len ≤ 90000) (hk : k + 4 ≤ len) (hb : Byt w a l) (h6 : 65536 < nm (l.drop k)) :
    Calls Tryd.prog 12 #[.slice a len cap, .int .i64 (k : Int)] w fun e w' => ∃ A, e = .returned (.tuple #[.slice A 0 0, .int .i64 0, .int .i64 4]) ∧ Below w.heap.size w w' := by
  have B0 := Lib.hid (below_alloc w (.cells #[] 5))
  have d0 : decide ((k : Int) < 0) = false := by simp
  have dk : decide (len < k) = false := by simp; omega
  have dk' : decide ((len : Int) < (k : Int)) = false := by simp; omega
  have d4 : decide ((len : Int) - (k : Int) < 4) = false := by simp; omega
  have HN := Lib.hid (nmk_four (l.drop k))
  have HK := Lib.hid (nmk_lt (l.drop k) (Rng.drop hb.2 k))
  have HNL := Lib.hid (nm_lt (l.drop k) (Rng.drop hb.2 k))
  have HL := Lib.hid hl
  have HC := Lib.hid (show ∀ j, j < 4 → ∃ b off y, a = some ⟨b, off, none⟩ ∧ w.cell? ⟨b, off + (k + j), none⟩ = some (.int .u8 ((y : Nat) : Int)) ∧ y < 256 ∧ nmk (j + 1) (l.drop k) = nmk j (l.drop k) * 256 + y from fun j hj => by
    obtain ⟨b, off, e, hcell⟩ := hb.1 (k + j) (by omega)
    have hr := hb.2 (l.getD (k + j) 0) (by rw [List.getD_eq_getElem?_getD, List.getElem?_eq_getElem (by omega)]; exact List.getElem_mem _)
    refine ⟨b, off, (l.getD (k + j) 0).toNat, e, by rw [hcell]; congr 2; omega, by omega, ?_⟩
    rw [nmk]
    congr 2
    simp [List.getD_eq_getElem?_getD])
  clear hl
  go_enter Tryd.func12, Tryd.ntmps12
  go_wp2_with fail
  go_loop [8, 9] (fun t i => ∃ j : Nat, j ≤ 4 ∧ i = .int .i64 j ∧ t = .int .i64 (nmk j (l.drop k) : Int)) (fun _ i => 4 - (intOf i).toNat)
  case atStart => exact ⟨0, by omega, rfl, rfl⟩
  case round =>
  obtain ⟨j, hj, rfl, rfl⟩ := hrel
  by_cases hlt : j < 4
  · obtain ⟨b, off, y, rfl, hcell, hy, hst⟩ := HC.out j hlt
    have hcell2 : (w.alloc (.cells #[] 5)).cell? ⟨b, off + (k + j), none⟩ = some (.int .u8 (y : Int)) := (B0.out.cell (p := ⟨b, off + (k + j), none⟩) (World.block_lt_of_cell? _ _ hcell)).trans hcell
    have hx : nmk j (l.drop k) < 16777216 := by
      have := HK.out j hj
      have : 256 ^ j ≤ 256 ^ 3 := Nat.pow_le_pow_right (by omega) (by omega)
      omega
    have HS := Lib.hid hst
    have hkj : (k : Int) + (j : Int) < (len : Int) := by omega
    have hlb := World.block_lt_of_cell? _ _ hcell
    clear hst hcell
    generalize nmk j (l.drop k) = x at hx HS
    obtain ⟨W, hW⟩ : ∃ W, w.alloc (.cells #[] 5) = W := ⟨_, rfl⟩
    rw [hW] at hcell2 ⊢
    have HW := Lib.hid hW
    clear hW
    go_wp2
    go_round
    case rel => exact ⟨j + 1, by omega, by go_num, by rw [HS.out]; simp⟩
    case measure => simp [intOf]; omega
  have EN := Lib.hid (show nmk j (l.drop k) = nm (l.drop k) by rw [← HN.out, show j = 4 by omega])
  rw [EN.out]
  obtain ⟨N, hN⟩ : ∃ N, nm (l.drop k) = N := ⟨_, rfl⟩
  rw [hN]
  rw [hN] at HNL
  rw [hN] at h6
  have d6 : decide ((65536 : Int) < (N : Int)) = true := by simp; omega
  clear EN hN
  go_wp2_with fail
  go_ret3
  first | exact ⟨_, rfl, B0.out⟩ | exact ⟨rfl, B0.out⟩ | exact ⟨by simp, B0.out⟩
set_option maxHeartbeats 2000000 in
theorem rget_cut (a : Option Addr) (len cap : Nat) (l : List Int) (k : Nat) (w : World) (hl : l.length = len) (hm : len ≤ 90000) (hk : k + 4 ≤ len) (hb : Byt w a l) (h6 : nm (l.drop k) ≤ 65536) (h8 : len < k + (8 + nm (l.drop k))) :
    Calls Tryd.prog 12 #[.slice a len cap, .int .i64 (k : Int)] w fun e w' => ∃ A, e = .returned (.tuple #[.slice A 0 0, .int .i64 0, .int .i64 3]) ∧ Below w.heap.size w w' := by
  have B0 := Lib.hid (below_alloc w (.cells #[] 5))
  have d0 : decide ((k : Int) < 0) = false := by simp
  have dk : decide (len < k) = false := by simp; omega
  have dk' : decide ((len : Int) < (k : Int)) = false := by simp; omega
  have d4 : decide ((len : Int) - (k : Int) < 4) = false := by simp; omega
  have HN := Lib.hid (nmk_four (l.drop k))
  have HK := Lib.hid (nmk_lt (l.drop k) (Rng.drop hb.2 k))
  have HNL := Lib.hid (nm_lt (l.drop k) (Rng.drop hb.2 k))
  have HL := Lib.hid hl
  have HC := Lib.hid (show ∀ j, j < 4 → ∃ b off y, a = some ⟨b, off, none⟩ ∧ w.cell? ⟨b, off + (k + j), none⟩ = some (.int .u8 ((y : Nat) : Int)) ∧ y < 256 ∧ nmk (j + 1) (l.drop k) = nmk j (l.drop k) * 256 + y from fun j hj => by
    obtain ⟨b, off, e, hcell⟩ := hb.1 (k + j) (by omega)
    have hr := hb.2 (l.getD (k + j) 0) (by rw [List.getD_eq_getElem?_getD, List.getElem?_eq_getElem (by omega)]; exact List.getElem_mem _)
    refine ⟨b, off, (l.getD (k + j) 0).toNat, e, by rw [hcell]; congr 2; omega, by omega, ?_⟩
    rw [nmk]
    congr 2
    simp [List.getD_eq_getElem?_getD])
  clear hl
  go_enter Tryd.func12, Tryd.ntmps12
  go_wp2_with fail
  go_loop [8, 9] (fun t i => ∃ j : Nat, j ≤ 4 ∧ i = .int .i64 j ∧ t = .int .i64 (nmk j (l.drop k) : Int)) (fun _ i => 4 - (intOf i).toNat)
  case atStart => exact ⟨0, by omega, rfl, rfl⟩
  case round =>
  obtain ⟨j, hj, rfl, rfl⟩ := hrel
  by_cases hlt : j < 4
  · obtain ⟨b, off, y, rfl, hcell, hy, hst⟩ := HC.out j hlt
    have hcell2 : (w.alloc (.cells #[] 5)).cell? ⟨b, off + (k + j), none⟩ = some (.int .u8 (y : Int)) := (B0.out.cell (p := ⟨b, off + (k + j), none⟩) (World.block_lt_of_cell? _ _ hcell)).trans hcell
    have hx : nmk j (l.drop k) < 16777216 := by
      have := HK.out j hj
      have : 256 ^ j ≤ 256 ^ 3 := Nat.pow_le_pow_right (by omega) (by omega)
      omega
    have HS := Lib.hid hst
    have hkj : (k : Int) + (j : Int) < (len : Int) := by omega
    have hlb := World.block_lt_of_cell? _ _ hcell
    clear hst hcell
    generalize nmk j (l.drop k) = x at hx HS
    obtain ⟨W, hW⟩ : ∃ W, w.alloc (.cells #[] 5) = W := ⟨_, rfl⟩
    rw [hW] at hcell2 ⊢
    have HW := Lib.hid hW
    clear hW
    go_wp2
    go_round
    case rel => exact ⟨j + 1, by omega, by go_num, by rw [HS.out]; simp⟩
    case measure => simp [intOf]; omega
  have EN := Lib.hid (show nmk j (l.drop k) = nm (l.drop k) by rw [← HN.out, show j = 4 by omega])
  rw [EN.out]
  obtain ⟨N, hN⟩ : ∃ N, nm (l.drop k) = N := ⟨_, rfl⟩
  rw [hN]
  rw [hN] at HNL
  rw [hN] at h6 h8
  have d6 : decide ((65536 : Int) < (N : Int)) = false := by simp; omega
  have d8 : decide ((len : Int) - (k : Int) < 8 + (N : Int)) = true := by simp; omega
  clear EN hN
  go_wp2_with fail
  go_ret3
  first | exact ⟨_, rfl, B0.out⟩ | exact ⟨rfl, B0.out⟩ | exact ⟨by simp, B0.out⟩
set_option maxHeartbeats 2000000 in
theorem rget_sum (a : Option Addr) (len cap : Nat) (l : List Int) (k : Nat) (w : World) (hl : l.length = len) (hm : len ≤ 90000) (hc : len ≤ cap) (hz : a = none → cap = 0) (hk : k + 4 ≤ len) (hb : Byt w a l) (h6 : nm (l.drop k) ≤ 65536) (h8 : k + (8 + nm (l.drop k)) ≤ len) (hs : nm ((l.drop k).drop 4) ≠ sm ((l.drop k).take 4) (fR (l.drop k))) :
    Calls Tryd.prog 12 #[.slice a len cap, .int .i64 (k : Int)] w fun e w' => ∃ A, e = .returned (.tuple #[.slice A 0 0, .int .i64 0, .int .i64 6]) ∧ Below w.heap.size w w' := by
  have B0 := Lib.hid (below_alloc w (.cells #[] 5))
  have d0 : decide ((k : Int) < 0) = false := by simp
  have dk : decide (len < k) = false := by simp; omega
  have dk' : decide ((len : Int) < (k : Int)) = false := by simp; omega
  have d4 : decide ((len : Int) - (k : Int) < 4) = false := by simp; omega
  have HN := Lib.hid (nmk_four (l.drop k))
  have HK := Lib.hid (nmk_lt (l.drop k) (Rng.drop hb.2 k))
  have HNL := Lib.hid (nm_lt (l.drop k) (Rng.drop hb.2 k))
  have HL := Lib.hid hl
  have HC := Lib.hid (show ∀ j, j < 4 → ∃ b off y, a = some ⟨b, off, none⟩ ∧ w.cell? ⟨b, off + (k + j), none⟩ = some (.int .u8 ((y : Nat) : Int)) ∧ y < 256 ∧ nmk (j + 1) (l.drop k) = nmk j (l.drop k) * 256 + y from fun j hj => by
    obtain ⟨b, off, e, hcell⟩ := hb.1 (k + j) (by omega)
    have hr := hb.2 (l.getD (k + j) 0) (by rw [List.getD_eq_getElem?_getD, List.getElem?_eq_getElem (by omega)]; exact List.getElem_mem _)
    refine ⟨b, off, (l.getD (k + j) 0).toNat, e, by rw [hcell]; congr 2; omega, by omega, ?_⟩
    rw [nmk]
    congr 2
    simp [List.getD_eq_getElem?_getD])
  have hfb := Lib.hid (fr_back (Rng.drop hb.2 k) (show 4 ≤ (l.drop k).length by rw [List.length_drop]; omega) h6 (by rw [List.length_drop]; omega))
  have HR := Lib.hid (show (fR (l.drop k)).length = nm (l.drop k) by simp only [fR, List.length_take, List.length_drop]; omega)
  have HRR := Lib.hid (show Rng (fR (l.drop k)) from (Rng.drop (Rng.drop hb.2 k) 8).take _)
  have Y8 := Lib.hid (show Byt w (if cap = k + 8 then a else a.map (·.add (k + 8))) (fR (l.drop k)) by
    have := byt_sliced hb cap (k + 8) (nm (l.drop k)) (by omega) (by omega)
    unfold fR
    rw [List.drop_drop]
    exact this)
  have Y0 := Lib.hid (byt_sliced hb cap k (8 + nm (l.drop k)) (by omega) (by omega))
  have L0 := Lib.hid (show ((l.drop k).take (8 + nm (l.drop k))).length = 8 + nm (l.drop k) by rw [List.length_take, List.length_drop]; omega)
  have RX := Lib.hid (show Rng ((l.drop k).take (8 + nm (l.drop k))) from (Rng.drop hb.2 k).take _)
  have ZZ := Lib.hid (show (if cap = k + 8 then a else a.map (·.add (k + 8))) = none → cap - (k + 8) = 0 from fun h => by
    by_cases e : cap = k + 8
    · omega
    · rw [if_neg e] at h
      have : a = none := by simpa using h
      have := hz this
      omega)
  have HSS := Lib.hid hs
  clear hs hz
  clear hl
  go_enter Tryd.func12, Tryd.ntmps12
  go_wp2_with fail
  go_loop [8, 9] (fun t i => ∃ j : Nat, j ≤ 4 ∧ i = .int .i64 j ∧ t = .int .i64 (nmk j (l.drop k) : Int)) (fun _ i => 4 - (intOf i).toNat)
  case atStart => exact ⟨0, by omega, rfl, rfl⟩
  case round =>
  obtain ⟨j, hj, rfl, rfl⟩ := hrel
  by_cases hlt : j < 4
  · obtain ⟨b, off, y, rfl, hcell, hy, hst⟩ := HC.out j hlt
    have hcell2 : (w.alloc (.cells #[] 5)).cell? ⟨b, off + (k + j), none⟩ = some (.int .u8 (y : Int)) := (B0.out.cell (p := ⟨b, off + (k + j), none⟩) (World.block_lt_of_cell? _ _ hcell)).trans hcell
    have hx : nmk j (l.drop k) < 16777216 := by
      have := HK.out j hj
      have : 256 ^ j ≤ 256 ^ 3 := Nat.pow_le_pow_right (by omega) (by omega)
      omega
    have HS := Lib.hid hst
    have hkj : (k : Int) + (j : Int) < (len : Int) := by omega
    have hlb := World.block_lt_of_cell? _ _ hcell
    clear hst hcell
    generalize nmk j (l.drop k) = x at hx HS
    obtain ⟨W, hW⟩ : ∃ W, w.alloc (.cells #[] 5) = W := ⟨_, rfl⟩
    rw [hW] at hcell2 ⊢
    have HW := Lib.hid hW
    clear hW
    go_wp2
    go_round
    case rel => exact ⟨j + 1, by omega, by go_num, by rw [HS.out]; simp⟩
    case measure => simp [intOf]; omega
  have EN := Lib.hid (show nmk j (l.drop k) = nm (l.drop k) by rw [← HN.out, show j = 4 by omega])
  rw [EN.out]
  obtain ⟨N, hN⟩ : ∃ N, nm (l.drop k) = N := ⟨_, rfl⟩
  rw [hN]
  rw [hN] at HNL
  have E1 := fun w => run_cut a len cap (k + 8) (k + 8 + N) (by omega) (by omega) ((k : Int) + 8) ((k : Int) + 8 + (N : Int)) (by omega) (by omega) w
  have E2 := fun w => run_cut a len cap k (k + 8 + N) (by omega) (by omega) (k : Int) ((k : Int) + 8 + (N : Int)) (by omega) (by omega) w
  rw [show k + 8 + N - (k + 8) = N by omega] at E1
  rw [show k + 8 + N - k = 8 + N by omega] at E2
  rw [hN] at h6 h8 hfb HR Y0 L0 RX
  have d6 : decide ((65536 : Int) < (N : Int)) = false := by simp; omega
  have d8 : decide ((len : Int) - (k : Int) < 8 + (N : Int)) = false := by simp; omega
  obtain ⟨r, hr⟩ : ∃ r, fR (l.drop k) = r := ⟨_, rfl⟩
  obtain ⟨X, hX⟩ : ∃ X, (l.drop k).take (8 + N) = X := ⟨_, rfl⟩
  rw [hr] at HR HRR Y8 hfb
  rw [hX] at Y0 L0 RX hfb
  have HSX := Lib.hid (show nm ((l.drop k).drop 4) = sm ((l.drop k).take 4) r ↔ fr r = X from hfb.out.symm)
  have HRN := Lib.hid (And.intro hr hN)
  obtain ⟨A8, hA8⟩ : ∃ A8, (if cap = k + 8 then a else a.map (·.add (k + 8))) = A8 := ⟨_, rfl⟩
  obtain ⟨A9, hA9⟩ : ∃ A9, (if cap = k then a else a.map (·.add k)) = A9 := ⟨_, rfl⟩
  rw [hA8] at E1 Y8 ZZ
  rw [hA9] at E2 Y0
  generalize cap - (k + 8) = C8 at E1 ZZ
  generalize cap - k = C9 at E2
  clear EN hN hr hX hA8 hA9 hb HC HK hfb
  obtain ⟨W, hW⟩ : ∃ W, w.alloc (.cells #[] 5) = W := ⟨_, rfl⟩
  have sW : w.heap.size ≤ W.heap.size := by rw [← hW]; simp
  rw [hW] at B0 ⊢
  have HW := Lib.hid hW
  clear hW
  have D1 := Lib.hid (below_alloc W (.cells #[] 5))
  have B1 := Lib.hid (below_go B0.out D1.out)
  have K1 := Lib.hid (show ([] ++ r).length = N by simp [HR.out])
  go_wp2_with ((with_reducible show wpList _ _ _ (Oper.mk (some 65) _ _ _ _ _ :: _) _ _); refine wp_app (.tmp 56) (.tmp 64) _ rfl rfl W.heap.size _ [] rfl (Own.empty W) A8 N C8 r rfl HR.out (Y8.out.below B1.out) ZZ.out (by simp) N K1.out (by omega) D1.out.size ?_; intro A5 c5 w3 hO3 hY3 hb3)
  have D3 := Lib.hid (D1.out.trans hb3)
  have B3 := Lib.hid (below_go B0.out D3.out)
  have O3 := Lib.hid (show Own w3 W.heap.size (.slice A5 N c5) r from hO3)
  have Y3 := Lib.hid (show Byt w3 A5 r from hY3)
  clear hO3 hY3 hb3
  have D4 := Lib.hid (below_alloc w3 (.cells #[] 5))
  have P := Lib.hid (rput_ok (some ⟨w3.heap.size, 0, none⟩) A5 0 0 N c5 [] r _ rfl (by omega) ⟨fun i hi => absurd hi (by simp), by simp⟩ (fun h => by cases h) HR.out (by omega) (Y3.out.below D4.out) O3.out.capz)
  refine P.out.mono ?_
  rintro e w6 ⟨A6, T, C6, hT, rfl, hO6, hY6, hb6⟩
  have D6 := Lib.hid (below_go D4.out hb6)
  have B6 := Lib.hid (below_go B3.out D6.out)
  have LT := Lib.hid (show (fr r).length = T by rw [fr_len, HR.out, hT]; omega)
  have st1 := run_str w6.drew A6 T C6 (fr r) LT.out (Byt.below (show Byt w6 A6 (fr r) from hY6) ((Below.refl _ _).drew))
  have st2 := run_str w6.drew A9 (8 + N) C9 X L0.out (Byt.below (Y0.out.below B6.out) ((Below.refl _ _).drew))
  have O6 := Lib.hid (((O3.out.below D6.out).below ((Below.refl _ _).drew)).mono sW)
  have B7 := Lib.hid (B6.out.trans ((Below.refl w.heap.size w6).drew))
  clear hT hO6 hY6 hb6 P
  obtain ⟨s1, h1⟩ : ∃ s, strOfNums (fr r) = s := ⟨_, rfl⟩
  obtain ⟨s2, h2⟩ : ∃ s, strOfNums X = s := ⟨_, rfl⟩
  have hne : (s1.toList == s2.toList) = false := eqb_false fun h => by
    refine HSS.out ?_
    rw [HRN.out.1]
    refine HSX.out.2 ?_
    rw [← txt_str (fr r) (fr_rng r HRR.out), ← txt_str X RX.out, h1, h2, h]
  rw [h1] at st1
  rw [h2] at st2
  clear h1 h2
  go_wp2_with fail
  go_region
  all_goals
    go_wp2_with fail
    go_ret3
    exact ⟨_, rfl, B7.out⟩
set_option maxHeartbeats 2000000 in
theorem rget_ok (a : Option Addr) (len cap : Nat) (l : List Int) (k : Nat) (w : World) (hl : l.length = len) (hm : len ≤ 90000) (hc : len ≤ cap) (hz : a = none → cap = 0) (hk : k + 4 ≤ len) (hb : Byt w a l) (h6 : nm (l.drop k) ≤ 65536) (h8 : k + (8 + nm (l.drop k)) ≤ len) (hs : nm ((l.drop k).drop 4) = sm ((l.drop k).take 4) (fR (l.drop k))) :
    Calls Tryd.prog 12 #[.slice a len cap, .int .i64 (k : Int)] w fun e w' => ∃ A C, e = .returned (.tuple #[.slice A (nm (l.drop k)) C, .int .i64 ((k + (8 + nm (l.drop k)) : Nat) : Int), .int .i64 0]) ∧ Own w' w.heap.size (.slice A (nm (l.drop k)) C) (fR (l.drop k)) ∧ Below w.heap.size w w' := by
  have B0 := Lib.hid (below_alloc w (.cells #[] 5))
  have d0 : decide ((k : Int) < 0) = false := by simp
  have dk : decide (len < k) = false := by simp; omega
  have dk' : decide ((len : Int) < (k : Int)) = false := by simp; omega
  have d4 : decide ((len : Int) - (k : Int) < 4) = false := by simp; omega
  have HN := Lib.hid (nmk_four (l.drop k))
  have HK := Lib.hid (nmk_lt (l.drop k) (Rng.drop hb.2 k))
  have HNL := Lib.hid (nm_lt (l.drop k) (Rng.drop hb.2 k))
  have HL := Lib.hid hl
  have HC := Lib.hid (show ∀ j, j < 4 → ∃ b off y, a = some ⟨b, off, none⟩ ∧ w.cell? ⟨b, off + (k + j), none⟩ = some (.int .u8 ((y : Nat) : Int)) ∧ y < 256 ∧ nmk (j + 1) (l.drop k) = nmk j (l.drop k) * 256 + y from fun j hj => by
    obtain ⟨b, off, e, hcell⟩ := hb.1 (k + j) (by omega)
    have hr := hb.2 (l.getD (k + j) 0) (by rw [List.getD_eq_getElem?_getD, List.getElem?_eq_getElem (by omega)]; exact List.getElem_mem _)
    refine ⟨b, off, (l.getD (k + j) 0).toNat, e, by rw [hcell]; congr 2; omega, by omega, ?_⟩
    rw [nmk]
    congr 2
    simp [List.getD_eq_getElem?_getD])
  have hfb := Lib.hid (fr_back (Rng.drop hb.2 k) (show 4 ≤ (l.drop k).length by rw [List.length_drop]; omega) h6 (by rw [List.length_drop]; omega))
  have HR := Lib.hid (show (fR (l.drop k)).length = nm (l.drop k) by simp only [fR, List.length_take, List.length_drop]; omega)
  have HRR := Lib.hid (show Rng (fR (l.drop k)) from (Rng.drop (Rng.drop hb.2 k) 8).take _)
  have Y8 := Lib.hid (show Byt w (if cap = k + 8 then a else a.map (·.add (k + 8))) (fR (l.drop k)) by
    have := byt_sliced hb cap (k + 8) (nm (l.drop k)) (by omega) (by omega)
    unfold fR
    rw [List.drop_drop]
    exact this)
  have Y0 := Lib.hid (byt_sliced hb cap k (8 + nm (l.drop k)) (by omega) (by omega))
  have L0 := Lib.hid (show ((l.drop k).take (8 + nm (l.drop k))).length = 8 + nm (l.drop k) by rw [List.length_take, List.length_drop]; omega)
  have RX := Lib.hid (show Rng ((l.drop k).take (8 + nm (l.drop k))) from (Rng.drop hb.2 k).take _)
  have ZZ := Lib.hid (show (if cap = k + 8 then a else a.map (·.add (k + 8))) = none → cap - (k + 8) = 0 from fun h => by
    by_cases e : cap = k + 8
    · omega
    · rw [if_neg e] at h
      have : a = none := by simpa using h
      have := hz this
      omega)
  have HSS := Lib.hid hs
  clear hs hz
  clear hl
  go_enter Tryd.func12, Tryd.ntmps12
  go_wp2_with fail
  go_loop [8, 9] (fun t i => ∃ j : Nat, j ≤ 4 ∧ i = .int .i64 j ∧ t = .int .i64 (nmk j (l.drop k) : Int)) (fun _ i => 4 - (intOf i).toNat)
  case atStart => exact ⟨0, by omega, rfl, rfl⟩
  case round =>
  obtain ⟨j, hj, rfl, rfl⟩ := hrel
  by_cases hlt : j < 4
  · obtain ⟨b, off, y, rfl, hcell, hy, hst⟩ := HC.out j hlt
    have hcell2 : (w.alloc (.cells #[] 5)).cell? ⟨b, off + (k + j), none⟩ = some (.int .u8 (y : Int)) := (B0.out.cell (p := ⟨b, off + (k + j), none⟩) (World.block_lt_of_cell? _ _ hcell)).trans hcell
    have hx : nmk j (l.drop k) < 16777216 := by
      have := HK.out j hj
      have : 256 ^ j ≤ 256 ^ 3 := Nat.pow_le_pow_right (by omega) (by omega)
      omega
    have HS := Lib.hid hst
    have hkj : (k : Int) + (j : Int) < (len : Int) := by omega
    have hlb := World.block_lt_of_cell? _ _ hcell
    clear hst hcell
    generalize nmk j (l.drop k) = x at hx HS
    obtain ⟨W, hW⟩ : ∃ W, w.alloc (.cells #[] 5) = W := ⟨_, rfl⟩
    rw [hW] at hcell2 ⊢
    have HW := Lib.hid hW
    clear hW
    go_wp2
    go_round
    case rel => exact ⟨j + 1, by omega, by go_num, by rw [HS.out]; simp⟩
    case measure => simp [intOf]; omega
  have EN := Lib.hid (show nmk j (l.drop k) = nm (l.drop k) by rw [← HN.out, show j = 4 by omega])
  rw [EN.out]
  obtain ⟨N, hN⟩ : ∃ N, nm (l.drop k) = N := ⟨_, rfl⟩
  rw [hN]
  rw [hN] at HNL
  have E1 := fun w => run_cut a len cap (k + 8) (k + 8 + N) (by omega) (by omega) ((k : Int) + 8) ((k : Int) + 8 + (N : Int)) (by omega) (by omega) w
  have E2 := fun w => run_cut a len cap k (k + 8 + N) (by omega) (by omega) (k : Int) ((k : Int) + 8 + (N : Int)) (by omega) (by omega) w
  rw [show k + 8 + N - (k + 8) = N by omega] at E1
  rw [show k + 8 + N - k = 8 + N by omega] at E2
  rw [hN] at h6 h8 hfb HR Y0 L0 RX
  have d6 : decide ((65536 : Int) < (N : Int)) = false := by simp; omega
  have d8 : decide ((len : Int) - (k : Int) < 8 + (N : Int)) = false := by simp; omega
  obtain ⟨r, hr⟩ : ∃ r, fR (l.drop k) = r := ⟨_, rfl⟩
  obtain ⟨X, hX⟩ : ∃ X, (l.drop k).take (8 + N) = X := ⟨_, rfl⟩
  rw [hr] at HR HRR Y8 hfb
  rw [hX] at Y0 L0 RX hfb
  have HSX := Lib.hid (show nm ((l.drop k).drop 4) = sm ((l.drop k).take 4) r ↔ fr r = X from hfb.out.symm)
  have HRN := Lib.hid (And.intro hr hN)
  obtain ⟨A8, hA8⟩ : ∃ A8, (if cap = k + 8 then a else a.map (·.add (k + 8))) = A8 := ⟨_, rfl⟩
  obtain ⟨A9, hA9⟩ : ∃ A9, (if cap = k then a else a.map (·.add k)) = A9 := ⟨_, rfl⟩
  rw [hA8] at E1 Y8 ZZ
  rw [hA9] at E2 Y0
  generalize cap - (k + 8) = C8 at E1 ZZ
  generalize cap - k = C9 at E2
  clear EN hN hr hX hA8 hA9 hb HC HK hfb
  obtain ⟨W, hW⟩ : ∃ W, w.alloc (.cells #[] 5) = W := ⟨_, rfl⟩
  have sW : w.heap.size ≤ W.heap.size := by rw [← hW]; simp
  rw [hW] at B0 ⊢
  have HW := Lib.hid hW
  clear hW
  have D1 := Lib.hid (below_alloc W (.cells #[] 5))
  have B1 := Lib.hid (below_go B0.out D1.out)
  have K1 := Lib.hid (show ([] ++ r).length = N by simp [HR.out])
  go_wp2_with ((with_reducible show wpList _ _ _ (Oper.mk (some 65) _ _ _ _ _ :: _) _ _); refine wp_app (.tmp 56) (.tmp 64) _ rfl rfl W.heap.size _ [] rfl (Own.empty W) A8 N C8 r rfl HR.out (Y8.out.below B1.out) ZZ.out (by simp) N K1.out (by omega) D1.out.size ?_; intro A5 c5 w3 hO3 hY3 hb3)
  have D3 := Lib.hid (D1.out.trans hb3)
  have B3 := Lib.hid (below_go B0.out D3.out)
  have O3 := Lib.hid (show Own w3 W.heap.size (.slice A5 N c5) r from hO3)
  have Y3 := Lib.hid (show Byt w3 A5 r from hY3)
  clear hO3 hY3 hb3
  have D4 := Lib.hid (below_alloc w3 (.cells #[] 5))
  have P := Lib.hid (rput_ok (some ⟨w3.heap.size, 0, none⟩) A5 0 0 N c5 [] r _ rfl (by omega) ⟨fun i hi => absurd hi (by simp), by simp⟩ (fun h => by cases h) HR.out (by omega) (Y3.out.below D4.out) O3.out.capz)
  refine P.out.mono ?_
  rintro e w6 ⟨A6, T, C6, hT, rfl, hO6, hY6, hb6⟩
  have D6 := Lib.hid (below_go D4.out hb6)
  have B6 := Lib.hid (below_go B3.out D6.out)
  have LT := Lib.hid (show (fr r).length = T by rw [fr_len, HR.out, hT]; omega)
  have st1 := run_str w6.drew A6 T C6 (fr r) LT.out (Byt.below (show Byt w6 A6 (fr r) from hY6) ((Below.refl _ _).drew))
  have st2 := run_str w6.drew A9 (8 + N) C9 X L0.out (Byt.below (Y0.out.below B6.out) ((Below.refl _ _).drew))
  have O6 := Lib.hid (((O3.out.below D6.out).below ((Below.refl _ _).drew)).mono sW)
  have B7 := Lib.hid (B6.out.trans ((Below.refl w.heap.size w6).drew))
  clear hT hO6 hY6 hb6 P
  have hXe : fr r = X := HSX.out.1 (by rw [HSS.out, HRN.out.1])
  rw [hXe] at st1
  generalize strOfNums X = Z at st1 st2
  clear hXe
  go_wp2_with fail
  go_region
  all_goals
    go_wp2_with fail
    go_ret3
    refine ⟨A5, c5, ?_, ?_, B7.out⟩
    · rw [HRN.out.2]
      have : (k : Int) + 8 + (N : Int) = ((k + (8 + N) : Nat) : Int) := by omega
      rw [← this]; rfl
    · rw [HRN.out.1, HRN.out.2]
      exact O6.out
/- the document's Get at a place that is there -/
def RGot (w : World) (l : List Int) (k : Nat) (e : Ending) (w' : World) : Prop :=
  (fE l ≠ 0 ∧ (∃ A, e = .returned (.tuple #[.slice A 0 0, .int .i64 0, .int .i64 (fE l : Int)])) ∧ Below w.heap.size w w') ∨
  (fE l = 0 ∧ ∃ A C, e = .returned (.tuple #[.slice A (nm l) C, .int .i64 ((k + (8 + nm l) : Nat) : Int), .int .i64 0]) ∧ Own w' w.heap.size (.slice A (nm l) C) (fR l) ∧ Below w.heap.size w w')
theorem rget_in (a : Option Addr) (len cap : Nat) (l : List Int) (k : Nat) (w : World) (hl : l.length = len) (hm : len ≤ 90000) (hc : len ≤ cap) (hz : a = none → cap = 0) (hk : k ≤ len) (hb : Byt w a l) :
    Calls Tryd.prog 12 #[.slice a len cap, .int .i64 (k : Int)] w (RGot w (l.drop k) k) := by
  have hd : (l.drop k).length = len - k := by rw [List.length_drop, hl]
  have bad : ∀ z : Nat, fE (l.drop k) = z → z ≠ 0 → (Calls Tryd.prog 12 #[.slice a len cap, .int .i64 (k : Int)] w fun e w' => ∃ A, e = .returned (.tuple #[.slice A 0 0, .int .i64 0, .int .i64 (z : Int)]) ∧ Below w.heap.size w w') → Calls Tryd.prog 12 #[.slice a len cap, .int .i64 (k : Int)] w (RGot w (l.drop k) k) := by
    intro z hz h0 h
    refine h.mono ?_
    rintro e w' ⟨A, rfl, hb⟩
    exact .inl ⟨by omega, ⟨A, by rw [hz]⟩, hb⟩
  by_cases h4 : len < k + 4
  · exact bad 3 (by unfold fE; rw [if_pos (by omega)]) (by omega) (rget_four a len cap k w hk h4)
  · by_cases h6 : 65536 < nm (l.drop k)
    · exact bad 4 (by unfold fE; rw [if_neg (by omega), if_pos h6]) (by omega) (rget_long a len cap l k w hl hm (by omega) hb h6)
    · by_cases h8 : len < k + (8 + nm (l.drop k))
      · exact bad 3 (by unfold fE; rw [if_neg (by omega), if_neg h6, if_pos (by omega)]) (by omega) (rget_cut a len cap l k w hl hm (by omega) hb (by omega) h8)
      · by_cases hs : nm ((l.drop k).drop 4) = sm ((l.drop k).take 4) (fR (l.drop k))
        · have e0 : fE (l.drop k) = 0 := by unfold fE; rw [if_neg (by omega), if_neg h6, if_neg (by omega)]; exact if_pos hs
          refine (rget_ok a len cap l k w hl hm hc hz (by omega) hb (by omega) (by omega) hs).mono ?_
          intro e w' h
          exact .inr ⟨e0, h⟩
        · exact bad 6 (by unfold fE; rw [if_neg (by omega), if_neg h6, if_neg (by omega)]; exact if_neg hs) (by omega) (rget_sum a len cap l k w hl hm hc hz (by omega) hb (by omega) (by omega) hs)
end Go.Proofs.YteiajbeoglmmmaaDoor
