/- Whether an event may be. -/
import Derived.Test.YtiddpoihhfphmaaDoorEvVals
namespace Go.Proofs.YtiddpoihhfphmaaDoor
open Go Go.RowKit Pk Rl
set_option maxRecDepth 20000

set_option maxHeartbeats 1000000 in
theorem remay_any (t : Int) (a : Option Addr) (n c : Nat) (L : List VV) (w : World) (hn : L.length = n) (hm : n ≤ 1000) (hv : Vals w a L) (hk : ∀ v ∈ L, Okv v) :
    Calls Tryd.prog 30 #[ev t a n c] w fun e w' => e = .returned (.bool (emay L)) ∧ Below w.heap.size w w' := by
  have E0 := Lib.hid (Evt.alloc w t a n c)
  have B0 := Lib.hid (below_alloc w (ecells t a n c))
  have HN := Lib.hid hn
  have HV := Lib.hid hv
  have HK := Lib.hid hk
  clear hn hv hk
  go_enter Tryd.func30, Tryd.ntmps30
  go_wp2
  go_loopw [7] (fun i W => ∃ (j : Nat), i = .int .i64 j ∧ j ≤ n ∧ Hid (Evt W w.heap.size t a n c ∧ Below w.heap.size w W ∧ ((L.drop j).all mayv && decide (n ≤ 8)) = emay L)) (fun i _ => n - (intOf i).toNat)
  case atStart => exact ⟨0, rfl, by omega, Lib.hid ⟨E0.out, B0.out, by simp [emay, Bool.and_comm, HN.out]⟩⟩
  case round =>
    obtain ⟨j, rfl, hj, H⟩ := hrel
    by_cases c1 : j < n
    · obtain ⟨b, off, rfl, c0, c1, c2, c3⟩ := (HV.out.below H.out.2.1) j (by have := HN.out; omega)
      obtain ⟨e0, e1⟩ := H.out.1
      have M := Lib.hid (rmay_v (L.getD j vz) (HK.out _ (getD_mem L j (by have := HN.out; omega))))
      have HD := Lib.hid (H.out.2.2)
      rw [vdrop_cons L j (by have := HN.out; omega), List.all_cons] at HD
      generalize L.getD j vz = v at M HD c0 c1 c2 c3
      obtain ⟨k, m, r, s⟩ := v
      generalize mayv (k, m, r, s) = q at M HD
      have E1 := Lib.hid H.out.1
      have B1 := Lib.hid H.out.2.1
      clear H
      go_wp2_with fail
      refine (M.out _).mono ?_
      rintro e w2 ⟨rfl, hb⟩
      have E2 := Lib.hid (E1.out.next hb)
      have B2 := Lib.hid (below_go B1.out hb)
      clear hb M E1 B1 E0 B0 e0 e1 c0 c1 c2 c3
      cases q
      · go_wp2_with fail
        go_ret
        exact ⟨ret_bool (by rw [← HD.out]; simp), B2.out⟩
      · rw [Bool.true_and] at HD
        go_wp2_with fail
        go_roundw
        case rel => exact ⟨j + 1, by go_num, by omega, Lib.hid ⟨E2.out, B2.out, HD.out⟩⟩
        case measure => simp [intOf]; omega
    · obtain rfl : j = n := by omega
      obtain ⟨e0, e1⟩ := H.out.1
      have HD := Lib.hid H.out.2.2
      have B1 := Lib.hid H.out.2.1
      rw [List.drop_eq_nil_of_le (by have := HN.out; omega), List.all_nil, Bool.true_and] at HD
      clear H
      go_wp2_with fail
      go_ret
      exact ⟨ret_bool (by rw [← HD.out, Bool.eq_iff_iff]; simp; omega), B1.out⟩

set_option maxHeartbeats 1000000 in
theorem emay1_any (g : Nat) (t : Int) (a : Option Addr) (n c : Nat) (L : List VV) (j : Nat) (w : World) (hn : L.length = n) (_hm : n ≤ 1000) (hj : j < n) (hv : Vals w a L) (hk : ∀ v ∈ L, Okv v) (he : Evt w g t a n c) :
    Calls Tryd.prog 49 #[.int .i64 (j : Int), .pointer (some ⟨g, 0, none⟩)] w fun e w' => e = .returned (.bool (mayv (L.getD j vz))) ∧ Below w.heap.size w w' := by
  obtain ⟨b, off, rfl, c0, c1, c2, c3⟩ := hv j (by omega)
  obtain ⟨e0, e1⟩ := he
  have M := Lib.hid (may_v (L.getD j vz) (hk _ (getD_mem L j (by omega))))
  clear hn hv hk
  generalize L.getD j vz = v at M c0 c1 c2 c3
  obtain ⟨k, m, r, s⟩ := v
  generalize mayv (k, m, r, s) = q at M
  go_enter Tryd.func49, Tryd.ntmps49
  go_wp2_with fail
  refine (M.out _).mono ?_
  rintro e w2 ⟨rfl, hb⟩
  have B2 := Lib.hid hb
  go_wp2_with fail
  go_ret
  exact ⟨rfl, B2.out⟩

/- ofEach: asked of each number below n, in a world that keeps S -/
set_option maxHeartbeats 1000000 in
theorem each_may (n : Nat) (hm : n ≤ 1000) (g : Nat) (p : Nat → Bool) (w : World)
    (F : Hid (∀ j, j < n → ∀ W, Below w.heap.size w W → Calls Tryd.prog 49 #[.int .i64 (j : Int), .pointer (some ⟨g, 0, none⟩)] W fun e w' => e = .returned (.bool (p j)) ∧ Below W.heap.size W w')) :
    Calls Tryd.prog 48 #[.int .i64 (n : Int), .func (.func 49) #[] #[.pointer (some ⟨g, 0, none⟩)]] w fun e w' => e = .returned (.bool ((List.range n).all p)) ∧ Below w.heap.size w w' := by
  go_enter Tryd.func48, Tryd.ntmps48
  go_wp2
  go_loopw [7] (fun i W => ∃ (j : Nat), i = .int .i64 j ∧ j ≤ n ∧ Hid (Below w.heap.size w W ∧ (List.range j).all p = true)) (fun i _ => n - (intOf i).toNat)
  case atStart => exact ⟨0, rfl, by omega, Lib.hid ⟨Below.refl _ _, rfl⟩⟩
  case round =>
    obtain ⟨j, rfl, hj, H⟩ := hrel
    by_cases c1 : j < n
    · have F1 := Lib.hid (F.out j c1 wr H.out.1)
      have B1 := Lib.hid H.out.1
      have HD := Lib.hid H.out.2
      have PJ := Lib.hid (show p j = false → (List.range n).all p = false from fun h => by
        rw [List.all_eq_false]; exact ⟨j, List.mem_range.2 c1, by simp [h]⟩)
      have PS := Lib.hid (show p j = true → (List.range (j + 1)).all p = true from fun h => by rw [List.range_succ, List.all_append, HD.out]; simp [h])
      clear H HD
      generalize p j = q at F1 PJ PS
      go_wp2_with fail
      refine F1.out.mono ?_
      rintro e w2 ⟨rfl, hb⟩
      have B2 := Lib.hid (below_go B1.out hb)
      clear hb F1 B1
      cases q
      · go_wp2_with fail
        go_ret
        exact ⟨ret_bool (PJ.out (by first | rfl | trivial)).symm, B2.out⟩
      · go_wp2_with fail
        go_roundw
        case rel => exact ⟨j + 1, by go_num, by omega, Lib.hid ⟨B2.out, PS.out (by first | rfl | trivial)⟩⟩
        case measure => simp [intOf]; omega
    · obtain rfl : j = n := by omega
      have B1 := Lib.hid H.out.1
      have HD := Lib.hid H.out.2
      clear H
      go_wp2_with fail
      go_ret
      exact ⟨ret_bool HD.out.symm, B1.out⟩

theorem all_range (L : List VV) (n : Nat) (hn : L.length = n) (p : VV → Bool) : (List.range n).all (fun j => p (L.getD j vz)) = L.all p := by
  subst hn
  induction L with
  | nil => rfl
  | cons v L ih =>
    rw [List.length_cons, List.range_succ_eq_map, List.all_cons, List.all_map, List.all_cons]
    congr 1

set_option maxHeartbeats 1000000 in
theorem emay_any (t : Int) (a : Option Addr) (n c : Nat) (L : List VV) (w : World) (hn : L.length = n) (hm : n ≤ 1000) (hv : Vals w a L) (hk : ∀ v ∈ L, Okv v) :
    Calls Tryd.prog 27 #[ev t a n c] w fun e w' => e = .returned (.bool (emay L)) ∧ Below w.heap.size w w' := by
  have B0 := Lib.hid (below_alloc w (ecells t a n c))
  have E := Lib.hid (each_may n hm w.heap.size (fun j => mayv (L.getD j vz)) (w.alloc (ecells t a n c)) (Lib.hid fun j hj W hW => emay1_any w.heap.size t a n c L j W hn hm hj ((hv.below B0.out).below hW) hk ((Evt.alloc w t a n c).next hW)))
  rw [all_range L n hn] at E
  have hc : (decide (n ≤ 8) && L.all mayv) = emay L := by rw [emay, hn]
  have HC := Lib.hid hc
  clear hn hv hk hc
  generalize L.all mayv = q at E HC
  by_cases c8 : n ≤ 8
  · rw [decide_eq_true c8, Bool.true_and] at HC
    go_enter Tryd.func27, Tryd.ntmps27
    go_wp2_with fail
    refine E.out.mono ?_
    rintro e w2 ⟨rfl, hb⟩
    have B2 := Lib.hid (below_go B0.out hb)
    clear hb
    go_wp2_with fail
    go_ret
    exact ⟨ret_bool HC.out, B2.out⟩
  · rw [decide_eq_false c8, Bool.false_and] at HC
    clear E
    go_enter Tryd.func27, Tryd.ntmps27
    go_wp2_with fail
    go_ret
    exact ⟨ret_bool HC.out, B0.out⟩
end Go.Proofs.YtiddpoihhfphmaaDoor
