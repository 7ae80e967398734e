/- Whether each match of a row is one of another row. -/
import Derived.Test.YtccjflioaajgiaaGreatDoorMS
namespace Go.Proofs.YtccjflioaajgiaaGreatDoor
open Go Go.RowKit Go.Maps Pk Rl
set_option maxRecDepth 20000

theorem meq (x y : Mt) (w : World) : (binOp .eql 46 (.agg #[.int .u64 (x.1 : Int), .int .u64 (x.2 : Int)]) (.agg #[.int .u64 (y.1 : Int), .int .u64 (y.2 : Int)])).run Tryz.prog w = .ok (.bool (decide (x = y))) w := by
  have u3 := Tryz.underlying23
  have a3 := Tryz.isAgg23
  have z3 := Tryz.sizeOf23
  rw [run_eql_struct, show (10000 : Nat) = 9999 + 1 from rfl, run_equalIn_agg w 9999 46 _ _ hSM hpM]
  simp only [Program.fieldsOf, Tryz.underlying46]
  go_simp
  obtain ⟨x1, x2⟩ := x
  obtain ⟨y1, y2⟩ := y
  by_cases h1 : x1 = y1 <;> by_cases h2 : x2 = y2 <;> simp [h1, h2] <;> omega
def inM (L : List Mt) (x : Mt) : Bool := L.any fun y => decide (x = y)
def wth (L L' : List Mt) : Bool := L.all (inM L')
theorem inM_iff {L : List Mt} {x : Mt} : inM L x = true ↔ x ∈ L := by
  unfold inM
  rw [List.any_eq_true]
  constructor
  · rintro ⟨y, hy, e⟩; rw [of_decide_eq_true e]; exact hy
  · intro h; exact ⟨x, h, by simp⟩
theorem wth_iff {L L' : List Mt} : wth L L' = true ↔ ∀ x ∈ L, x ∈ L' := by
  unfold wth
  rw [List.all_eq_true]
  exact ⟨fun h x hx => inM_iff.1 (h x hx), fun h x hx => inM_iff.2 (h x hx)⟩
theorem mtake (L : List Mt) (k : Nat) (h : k < L.length) : L.take (k + 1) = L.take k ++ [gm L k] := by
  rw [List.take_succ_eq_append_getElem h, gm, List.getD_eq_getElem?_getD, List.getElem?_eq_getElem h]; rfl
theorem gm_mem (L : List Mt) (k : Nat) (h : k < L.length) : gm L k ∈ L := by
  rw [gm, List.getD_eq_getElem?_getD, List.getElem?_eq_getElem h]; exact List.getElem_mem _
set_option maxHeartbeats 4000000 in
theorem within_any (A : Option Addr) (n c : Nat) (L : List Mt) (A' : Option Addr) (n' c' : Nat) (L' : List Mt) (w : World) (h : Mrs w A L) (h' : Mrs w A' L') (hn : L.length = n) (hn' : L'.length = n') (hm : n ≤ 100000000) (hm' : n' ≤ 100000000) :
    Calls Tryz.prog 21 #[.slice A n c, .slice A' n' c'] w fun e w' => e = .returned (.bool (wth L L')) ∧ Below w.heap.size w w' := by
  have HH := Lib.hid h
  have HH' := Lib.hid h'
  have N1 := Lib.hid hn
  have N2 := Lib.hid hn'
  clear h h' hn hn'
  go_enter Tryz.func21, Tryz.ntmps21
  go_wp2_with fail
  go_loopw [12] (fun t W => ∃ k : Nat, k ≤ n ∧ t = .int .i64 (k : Int) ∧ Hid (Below w.heap.size w W ∧ (L.take k).all (inM L') = true)) (fun t _ => n - (intOf t).toNat)
  case atStart => exact ⟨0, Nat.zero_le _, rfl, Lib.hid ⟨Below.refl _ _, rfl⟩⟩
  case round =>
    obtain ⟨k, hk, rfl, I⟩ := hrel
    by_cases hlt : k < n
    · obtain ⟨b, off, rfl, f1, f2⟩ := HH.out k (by rw [N1.out]; exact hlt)
      have g1 : wr.cell? ⟨b, off + k * 2, none⟩ = some (.int .u64 ((gm L k).1 : Int)) := Ck.of_below I.out.1 _ _ _ f1
      have g2 : wr.cell? ⟨b, off + k * 2 + 1, none⟩ = some (.int .u64 ((gm L k).2 : Int)) := Ck.of_below I.out.1 _ _ _ f2
      clear f1 f2
      have TK := Lib.hid (mtake L k (by rw [N1.out]; exact hlt))
      have MM := Lib.hid (gm_mem L k (by rw [N1.out]; exact hlt))
      generalize gm L k = x at g1 g2 TK MM
      obtain ⟨w1, hw1⟩ : ∃ X, wr.alloc (.cells #[.int .u64 (x.1 : Int), .int .u64 (x.2 : Int)] 46) = X := ⟨_, rfl⟩
      have B1 : Hid (Below w.heap.size w w1) := Lib.hid (hw1 ▸ I.out.1.trans ((bal wr _).mono I.out.1.size))
      have z1 : w1.cell? ⟨wr.heap.size, 0, none⟩ = some (.int .u64 (x.1 : Int)) := by rw [← hw1]; simp [go_sem]
      have z2 : w1.cell? ⟨wr.heap.size, 1, none⟩ = some (.int .u64 (x.2 : Int)) := by rw [← hw1]; simp [go_sem]
      have Z1 := Lib.hid z1
      have Z2 := Lib.hid z2
      have AL := Lib.hid I.out.2
      have h6 : ∃ g6, wr.heap.size = g6 := ⟨_, rfl⟩
      clear z1 z2 I
      go_wp2_with fail
      clear hw1 g1 g2
      go_loopw [7, 18] (fun f t W => ∃ (j : Nat) (fb : Bool), j ≤ n' ∧ t = .int .i64 (j : Int) ∧ f = .bool fb ∧ Hid (Below w1.heap.size w1 W ∧ fb = inM (L'.take j) x)) (fun _ t _ => n' - (intOf t).toNat)
      case atStart => exact ⟨0, false, Nat.zero_le _, rfl, rfl, Lib.hid ⟨Below.refl _ _, rfl⟩⟩
      case round =>
        rename World => we
        obtain ⟨j, fb, hj, rfl, rfl, J⟩ := hrel
        by_cases hl2 : j < n'
        · obtain ⟨b', off', rfl, f1, f2⟩ := HH'.out j (by rw [N2.out]; exact hl2)
          have BW : Hid (Below w.heap.size w we) := Lib.hid (B1.out.trans (J.out.1.mono B1.out.size))
          have g3 : we.cell? ⟨b', off' + j * 2, none⟩ = some (.int .u64 ((gm L' j).1 : Int)) := Ck.of_below BW.out _ _ _ f1
          have g4 : we.cell? ⟨b', off' + j * 2 + 1, none⟩ = some (.int .u64 ((gm L' j).2 : Int)) := Ck.of_below BW.out _ _ _ f2
          have g1 : we.cell? ⟨wr.heap.size, 0, none⟩ = some (.int .u64 (x.1 : Int)) := Ck.of_below J.out.1 _ _ _ Z1.out
          have g2 : we.cell? ⟨wr.heap.size, 1, none⟩ = some (.int .u64 (x.2 : Int)) := Ck.of_below J.out.1 _ _ _ Z2.out
          have zz : wr.heap.size < we.heap.size := World.block_lt_of_cell? _ _ g1
          clear f1 f2
          have TK' : Hid (inM (L'.take (j + 1)) x = (fb || decide (x = gm L' j))) := Lib.hid (by rw [mtake L' j (by rw [N2.out]; exact hl2), J.out.2]; unfold inM; rw [List.any_append]; simp)
          generalize gm L' j = y at g3 g4 TK'
          have ME := meq x y
          have hm := hgM
          cases fb
          · go_wp2_with fail
            by_cases hxy : x = y
            · have e1 : decide (x = y) = true := decide_eq_true hxy
              have N8 := Lib.hid (fun o => (show Below w1.heap.size w1 (we.alloc o) ∧ true = inM (L'.take (j + 1)) x from ⟨below_go J.out.1 (bal _ _), by rw [TK'.out, e1]; rfl⟩))
              rw [e1]
              go_wp2_with fail
              exact ⟨⟨j + 1, true, by omega, by go_num, rfl, Lib.hid (N8.out _)⟩, by simp [intOf]; omega⟩
            · have e1 : decide (x = y) = false := decide_eq_false hxy
              have N8 := Lib.hid (fun o => (show Below w1.heap.size w1 (we.alloc o) ∧ false = inM (L'.take (j + 1)) x from ⟨below_go J.out.1 (bal _ _), by rw [TK'.out, e1]; rfl⟩))
              rw [e1]
              go_wp2_with fail
              exact ⟨⟨j + 1, false, by omega, by go_num, rfl, Lib.hid (N8.out _)⟩, by simp [intOf]; omega⟩
          · have N8 := Lib.hid (fun o => (show Below w1.heap.size w1 (we.alloc o) ∧ true = inM (L'.take (j + 1)) x from ⟨below_go J.out.1 (bal _ _), by rw [TK'.out]; rfl⟩))
            go_wp2_with fail
            exact ⟨⟨j + 1, true, by omega, by go_num, rfl, Lib.hid (N8.out _)⟩, by simp [intOf]; omega⟩
        · obtain rfl : j = n' := by omega
          have E1 : Hid (fb = inM L' x) := Lib.hid (by have := J.out.2; rwa [List.take_of_length_le (by rw [N2.out]; exact Nat.le_refl _)] at this)
          have BW : Hid (Below w.heap.size w we) := Lib.hid (B1.out.trans (J.out.1.mono B1.out.size))
          cases fb
          · have E9 : Hid (wth L L' = false) := Lib.hid (by
              have e2 := E1.out
              rw [Bool.eq_false_iff]
              intro h
              have := wth_iff.1 h x MM.out
              rw [inM_iff.2 this] at e2
              cases e2)
            go_wp2_with fail
            go_ret
            exact ⟨by rw [E9.out]; rfl, BW.out⟩
          · have T9 : Hid ((L.take (k + 1)).all (inM L') = true) := Lib.hid (by rw [TK.out, List.all_append, AL.out]; simp [← E1.out])
            go_wp2_with fail
            exact ⟨⟨k + 1, by omega, by go_num, Lib.hid ⟨BW.out, T9.out⟩⟩, by simp [intOf]; omega⟩
    · obtain rfl : k = n := by omega
      have E9 : Hid (wth L L' = true) := Lib.hid (by
        have h8 := I.out.2
        rw [List.take_of_length_le (by rw [N1.out]; exact Nat.le_refl _)] at h8
        exact h8)
      go_wp2_with fail
      go_ret
      exact ⟨by rw [E9.out]; rfl, I.out.1⟩
end Go.Proofs.YtccjflioaajgiaaGreatDoor
