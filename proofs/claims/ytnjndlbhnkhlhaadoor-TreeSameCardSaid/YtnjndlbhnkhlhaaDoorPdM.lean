/- Whether a question may be: both sides; what is asked of each of its tests. -/
import Derived.Test.YtnjndlbhnkhlhaaDoorPdS
namespace Go.Proofs.YtnjndlbhnkhlhaaDoor
open Go Go.RowKit Pk Rl
set_option maxRecDepth 20000

/- ofEach: asked of each number below n -/
set_option maxHeartbeats 1000000 in
theorem eachM (n : Nat) (hm : n ≤ 1000) (g0 : Nat) (p : Nat → Bool) (w : World)
    (F : Hid (∀ j, j < n → ∀ W, Below w.heap.size w W → Calls Tryd.prog 50 #[.int .i64 (j : Int), .pointer (some ⟨g0, 0, none⟩)] W fun e w' => e = .returned (.bool (p j)) ∧ Below W.heap.size W w')) :
    Calls Tryd.prog 49 #[.int .i64 (n : Int), .func (.func 50) #[] #[.pointer (some ⟨g0, 0, none⟩)]] w fun e w' => e = .returned (.bool ((List.range n).all p)) ∧ Below w.heap.size w w' := by
  go_enter Tryd.func49, Tryd.ntmps49
  go_wp2
  go_loopw [7] (fun i W => ∃ (j : Nat), i = .int .i64 j ∧ j ≤ n ∧ Hid (Below w.heap.size w W ∧ (List.range j).all p = true)) (fun i _ => n - (intOf i).toNat)
  case atStart => exact ⟨0, rfl, by omega, Lib.hid ⟨Below.refl _ _, rfl⟩⟩
  case round =>
    obtain ⟨j, rfl, hj, H⟩ := hrel
    by_cases c1 : j < n
    · have F1 := Lib.hid (F.out j c1 wr H.out.1)
      have B1 := Lib.hid H.out.1
      have HD := Lib.hid H.out.2
      have PJ := Lib.hid (show p j = false → (List.range n).all p = false from fun h => by
        rw [List.all_eq_false]; exact ⟨j, List.mem_range.2 c1, by simp [h]⟩)
      have PS := Lib.hid (show p j = true → (List.range (j + 1)).all p = true from fun h => by rw [List.range_succ, List.all_append, HD.out]; simp [h])
      clear H HD
      generalize p j = q at F1 PJ PS
      go_wp2_with fail
      refine F1.out.mono ?_
      rintro e w2 ⟨rfl, hb⟩
      have B2 := Lib.hid (below_go B1.out hb)
      clear hb F1 B1
      cases q
      · go_wp2_with fail
        go_ret
        exact ⟨ret_bool (PJ.out (by first | rfl | trivial)).symm, B2.out⟩
      · go_wp2_with fail
        go_roundw
        case rel => exact ⟨j + 1, by go_num, by omega, Lib.hid ⟨B2.out, PS.out (by first | rfl | trivial)⟩⟩
        case measure => simp [intOf]; omega
    · obtain rfl : j = n := by omega
      have B1 := Lib.hid H.out.1
      have HD := Lib.hid H.out.2
      clear H
      go_wp2_with fail
      go_ret
      exact ⟨ret_bool HD.out.symm, B1.out⟩
/- ofEach: asked of each number below n -/
set_option maxHeartbeats 1000000 in
theorem eachS (n : Nat) (hm : n ≤ 1000) (g0 g1 : Nat) (p : Nat → Bool) (w : World)
    (F : Hid (∀ j, j < n → ∀ W, Below w.heap.size w W → Calls Tryd.prog 54 #[.int .i64 (j : Int), .pointer (some ⟨g0, 0, none⟩), .pointer (some ⟨g1, 0, none⟩)] W fun e w' => e = .returned (.bool (p j)) ∧ Below W.heap.size W w')) :
    Calls Tryd.prog 49 #[.int .i64 (n : Int), .func (.func 54) #[] #[.pointer (some ⟨g0, 0, none⟩), .pointer (some ⟨g1, 0, none⟩)]] w fun e w' => e = .returned (.bool ((List.range n).all p)) ∧ Below w.heap.size w w' := by
  go_enter Tryd.func49, Tryd.ntmps49
  go_wp2
  go_loopw [7] (fun i W => ∃ (j : Nat), i = .int .i64 j ∧ j ≤ n ∧ Hid (Below w.heap.size w W ∧ (List.range j).all p = true)) (fun i _ => n - (intOf i).toNat)
  case atStart => exact ⟨0, rfl, by omega, Lib.hid ⟨Below.refl _ _, rfl⟩⟩
  case round =>
    obtain ⟨j, rfl, hj, H⟩ := hrel
    by_cases c1 : j < n
    · have F1 := Lib.hid (F.out j c1 wr H.out.1)
      have B1 := Lib.hid H.out.1
      have HD := Lib.hid H.out.2
      have PJ := Lib.hid (show p j = false → (List.range n).all p = false from fun h => by
        rw [List.all_eq_false]; exact ⟨j, List.mem_range.2 c1, by simp [h]⟩)
      have PS := Lib.hid (show p j = true → (List.range (j + 1)).all p = true from fun h => by rw [List.range_succ, List.all_append, HD.out]; simp [h])
      clear H HD
      generalize p j = q at F1 PJ PS
      go_wp2_with fail
      refine F1.out.mono ?_
      rintro e w2 ⟨rfl, hb⟩
      have B2 := Lib.hid (below_go B1.out hb)
      clear hb F1 B1
      cases q
      · go_wp2_with fail
        go_ret
        exact ⟨ret_bool (PJ.out (by first | rfl | trivial)).symm, B2.out⟩
      · go_wp2_with fail
        go_roundw
        case rel => exact ⟨j + 1, by go_num, by omega, Lib.hid ⟨B2.out, PS.out (by first | rfl | trivial)⟩⟩
        case measure => simp [intOf]; omega
    · obtain rfl : j = n := by omega
      have B1 := Lib.hid H.out.1
      have HD := Lib.hid H.out.2
      clear H
      go_wp2_with fail
      go_ret
      exact ⟨ret_bool HD.out.symm, B1.out⟩

def pmay (x : Bool) (t : Int) (L : List TT) : Bool := decide (L.length ≤ 4) && !(x && decide (t ≠ 0)) && L.all rgt
set_option maxHeartbeats 1000000 in
theorem may1_any (g : Nat) (x : Bool) (t : Int) (a : Option Addr) (n c : Nat) (L : List TT) (j : Nat) (w : World) (hn : L.length = n) (_hm : n ≤ 1000) (hj : j < n) (hv : Tsts w a L) (hk : ∀ v ∈ L, Okt v) (hT : Tab w) (he : Pdt w g x t a n c) :
    Calls Tryd.prog 50 #[.int .i64 (j : Int), .pointer (some ⟨g, 0, none⟩)] w fun e w' => e = .returned (.bool (rgt (L.getD j tz))) ∧ Below w.heap.size w w' := by
  obtain ⟨b, off, rfl, c0, c1, c2, c3, c4, c5⟩ := hv j (by omega)
  obtain ⟨e0, e1, e2⟩ := he
  have M := Lib.hid (fun W (hW : Tab W) => mayTest_any (L.getD j tz) (hk _ (tgetD_mem L j (by omega))) W hW)
  have HT := Lib.hid hT
  clear hn hv hk hT
  generalize L.getD j tz = v at M c0 c1 c2 c3 c4 c5
  obtain ⟨f, o, k, m, r, s⟩ := v
  generalize rgt (f, o, k, m, r, s) = q at M
  go_enter Tryd.func50, Tryd.ntmps50
  go_wp2_with fail
  refine (M.out _ HT.out).mono ?_
  rintro e w2 ⟨rfl, hb⟩
  have B2 := Lib.hid hb
  go_wp2_with fail
  go_ret
  exact ⟨rfl, B2.out⟩
set_option maxHeartbeats 1000000 in
theorem pmay_any (x : Bool) (t : Int) (a : Option Addr) (n c : Nat) (L : List TT) (w : World) (hn : L.length = n) (hm : n ≤ 1000) (hv : Tsts w a L) (hk : ∀ v ∈ L, Okt v) (hT : Tab w) :
    Calls Tryd.prog 42 #[pv x t a n c] w fun e w' => e = .returned (.bool (pmay x t L)) ∧ Below w.heap.size w w' := by
  have B0 := Lib.hid (below_alloc w (pcells x t a n c))
  have E := Lib.hid (eachM n hm w.heap.size (fun j => rgt (L.getD j tz)) (w.alloc (pcells x t a n c)) (Lib.hid fun j hj W hW => may1_any w.heap.size x t a n c L j W hn hm hj ((hv.below B0.out).below hW) hk ((hT.below B0.out).below hW) ((Pdt.alloc w x t a n c).next hW)))
  rw [all_rangeT L n hn] at E
  have hc : (decide (n ≤ 4) && !(x && decide (t ≠ 0)) && L.all rgt) = pmay x t L := by rw [pmay, hn]
  have HC := Lib.hid hc
  clear hn hv hk hc hT
  generalize L.all rgt = q at E HC
  by_cases c8 : n ≤ 4
  · have u8 : ¬ (4 : Int) < (n : Int) := by omega
    rw [decide_eq_true c8, Bool.true_and] at HC
    cases x
    · rw [Bool.false_and, Bool.not_false, Bool.true_and] at HC
      go_enter Tryd.func42, Tryd.ntmps42
      go_wp2_with fail
      refine E.out.mono ?_
      rintro e w2 ⟨rfl, hb⟩
      have B2 := Lib.hid (below_go B0.out hb)
      clear hb
      go_wp2_with fail
      go_ret
      exact ⟨ret_bool HC.out, B2.out⟩
    · rw [Bool.true_and] at HC
      by_cases c0 : t = 0
      · subst c0
        rw [decide_eq_false (by simp), Bool.not_false, Bool.true_and] at HC
        go_enter Tryd.func42, Tryd.ntmps42
        go_wp2_with fail
        refine E.out.mono ?_
        rintro e w2 ⟨rfl, hb⟩
        have B2 := Lib.hid (below_go B0.out hb)
        clear hb
        go_wp2_with fail
        go_ret
        exact ⟨ret_bool HC.out, B2.out⟩
      · rw [decide_eq_true c0, Bool.not_true, Bool.false_and] at HC
        have t0 : (t == 0) = false := by simpa using c0
        clear E
        go_enter Tryd.func42, Tryd.ntmps42
        go_wp2_with fail
        go_ret
        exact ⟨ret_bool HC.out, B0.out⟩
  · have u8 : (4 : Int) < (n : Int) := by omega
    rw [decide_eq_false c8, Bool.false_and, Bool.false_and] at HC
    clear E c8
    go_enter Tryd.func42, Tryd.ntmps42
    go_wp2_with fail
    go_ret
    exact ⟨ret_bool HC.out, B0.out⟩
set_option maxHeartbeats 2000000 in
theorem rpmay_any (x : Bool) (t : Int) (a : Option Addr) (n c : Nat) (L : List TT) (w : World) (hn : L.length = n) (hm : n ≤ 1000) (hv : Tsts w a L) (hk : ∀ v ∈ L, Okt v) :
    Calls Tryd.prog 22 #[pv x t a n c] w fun e w' => e = .returned (.bool (pmay x t L)) ∧ Below w.heap.size w w' := by
  have E0 := Lib.hid (Pdt.alloc w x t a n c)
  have B0 := Lib.hid (below_alloc w (pcells x t a n c))
  have HN := Lib.hid hn
  have HV := Lib.hid hv
  have HK := Lib.hid hk
  have HC := Lib.hid (show (decide (n ≤ 4) && !(x && decide (t ≠ 0)) && L.all rgt) = pmay x t L by rw [pmay, hn])
  obtain ⟨R, hR⟩ : ∃ R, pmay x t L = R := ⟨_, rfl⟩
  rw [hR]
  rw [hR] at HC
  clear hn hv hk hR
  go_enter Tryd.func22, Tryd.ntmps22
  go_wp2
  go_loopw [7] (fun i W => ∃ (j : Nat), i = .int .i64 j ∧ j ≤ n ∧ Hid (Pdt W w.heap.size x t a n c ∧ Below w.heap.size w W ∧ (L.drop j).all rgt = L.all rgt)) (fun i _ => n - (intOf i).toNat)
  case atStart => exact ⟨0, rfl, by omega, Lib.hid ⟨E0.out, B0.out, rfl⟩⟩
  case round =>
    obtain ⟨j, rfl, hj, H⟩ := hrel
    obtain ⟨e0, e1, e2⟩ := H.out.1
    by_cases c1 : j < n
    · obtain ⟨b, off, rfl, c0, c1, c2, c3, c4, c5⟩ := (HV.out.below H.out.2.1) j (by have := HN.out; omega)
      have M := Lib.hid (right_any (L.getD j tz) (HK.out _ (tgetD_mem L j (by have := HN.out; omega))))
      have HD := Lib.hid (H.out.2.2)
      rw [tdrop_cons L j (by have := HN.out; omega), List.all_cons] at HD
      generalize L.getD j tz = v at M HD c0 c1 c2 c3 c4 c5
      obtain ⟨f, o, k, m, r, s⟩ := v
      generalize rgt (f, o, k, m, r, s) = q at M HD
      have E1 := Lib.hid H.out.1
      have B1 := Lib.hid H.out.2.1
      clear H
      go_wp2_with fail
      refine (M.out _).mono ?_
      rintro e w2 ⟨rfl, hb⟩
      have E2 := Lib.hid (E1.out.next hb)
      have B2 := Lib.hid (below_go B1.out hb)
      clear hb M E1 B1 E0 B0 e0 e1 e2 c0 c1 c2 c3 c4 c5
      cases q
      · rw [Bool.false_and] at HD
        go_wp2_with fail
        go_ret
        exact ⟨ret_bool (by rw [← HC.out, ← HD.out, Bool.and_false]), B2.out⟩
      · rw [Bool.true_and] at HD
        go_wp2_with fail
        go_roundw
        case rel => exact ⟨j + 1, by go_num, by omega, Lib.hid ⟨E2.out, B2.out, HD.out⟩⟩
        case measure => simp [intOf]; omega
    · obtain rfl : j = n := by omega
      have HD := Lib.hid H.out.2.2
      have B1 := Lib.hid H.out.2.1
      rw [List.drop_eq_nil_of_le (by have := HN.out; omega), List.all_nil] at HD
      rw [← HD.out, Bool.and_true] at HC
      clear H HD
      by_cases c8 : j ≤ 4
      · rw [decide_eq_true c8, Bool.true_and] at HC
        have u8 : (j : Int) ≤ 4 := by omega
        cases x
        · go_wp2_with fail
          go_ret
          exact ⟨ret_bool HC.out, B1.out⟩
        · by_cases c0 : t = 0
          · subst c0
            go_wp2_with fail
            go_ret
            exact ⟨ret_bool HC.out, B1.out⟩
          · have t0 : (t == 0) = false := by simpa using c0
            rw [decide_eq_true c0] at HC
            go_wp2_with fail
            go_ret
            exact ⟨ret_bool (by rw [← HC.out]; simp [c0]), B1.out⟩
      · rw [decide_eq_false c8, Bool.false_and] at HC
        have u8 : ¬ (j : Int) ≤ 4 := by omega
        go_wp2_with fail
        go_ret
        exact ⟨ret_bool HC.out, B1.out⟩
end Go.Proofs.YtnjndlbhnkhlhaaDoor
