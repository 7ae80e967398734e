/- New; where an engine is. -/
import Derived.Test.YtpnllbojifnopaaGreatDoorYRnF
namespace Go.Proofs.YtpnllbojifnopaaGreatDoor
open Go Go.RowKit Go.Maps Pk Rl
set_option maxRecDepth 20000
def NwX (V : AV) (win : Nat) (next : Nat) (w : World) (en : Ending) (w' : World) : Prop :=
  (V.m ≠ 0 ∧ en = .returned (.tuple #[.pointer none, .int .i64 V.m]) ∧ Below w.heap.size w w') ∨
  (V.m = 0 ∧ 1099511627776 < next ∧ en = .returned (.tuple #[.pointer none, .int .i64 5]) ∧ Below w.heap.size w w') ∨
  (V.m = 0 ∧ next ≤ 1099511627776 ∧ ∃ d Ap kp cp Ae ke ce Ps Es w0, en = .returned (.tuple #[.pointer (some ⟨d, 0, none⟩), .int .i64 0]) ∧ w.heap.size ≤ d ∧
    Hid (EnB w' d ⟨Ap, kp, cp, V.a, V.b, Ae, ke, ce, win, next, 0, false, 0, none, 0, 0⟩ ∧ Cr w0 Ap kp Ae ke Ps Es ∧ (Ps.map vq = V.P ∧ Es.map ve = V.E) ∧ Below w.heap.size w w0 ∧ Below w0.heap.size w0 w' ∧ w0.heap.size ≤ d) ∧ Below w.heap.size w w')
set_option maxHeartbeats 8000000 in
theorem new_any (A : Option Addr) (n c : Nat) (L : List Nd) (win next : Nat) (w : World) (hP : Pt w A n c L) (hT : Tab w) (hT5 : Tab5 w) :
    Calls Tryz.prog 26 #[ptv A n c (win : Int), .int .u64 (next : Int)] w fun en w' => NwX (cov L (win : Int)) win next w en w' := by
  have nb := below_alloc w (ptobj A n c (win : Int))
  have NB := Lib.hid nb
  have PB := Lib.hid (PtB.alloc w A n c (win : Int))
  have CC := Lib.hid (cv_any A n c L (win : Int) (w.alloc (ptobj A n c (win : Int))) (hP.below nb) (hT.below nb) (fun j hj => (nb.cell (World.block_lt_of_cell? _ _ (hT5 j hj))).trans (hT5 j hj)))
  obtain ⟨V, hV⟩ : ∃ V, cov L (win : Int) = V := ⟨_, rfl⟩
  rw [hV] at CC ⊢
  clear hP hT hT5 nb hV
  go_enter Tryz.func26, Tryz.ntmps26
  go_upto_region 1 with fail
  generalize w.alloc (.cells #[.slice A n c, .int .u64 (win : Int)] 28) = w1 at NB PB CC ⊢
  have k0 := PB.out.c0
  have k1 := PB.out.c1
  go_wp2_with fail
  refine CC.out.mono ?_
  rintro e w2 ⟨Ap, kp, cp, Ae, ke, ce, Ps, Es, B, rfl, HC, hb⟩
  have P2 := Lib.hid (PB.out.next hb)
  have B2 := Lib.hid (below_go NB.out hb)
  have CR := Lib.hid (HC.out.1.read)
  have MP := Lib.hid (And.intro HC.out.2.1 HC.out.2.2.1)
  clear hb HC CC PB k0 k1 NB
  obtain ⟨Vm, Va, Vb, VP, VE⟩ := V
  simp only at MP ⊢
  go_upto_region 2 with fail
  have n3 := below_alloc w2 (.cells #[.slice Ap kp cp, .int .u32 (Va : Int), .int .u32 (Vb : Int), .slice Ae ke ce] 36)
  have P3 := Lib.hid (P2.out.next n3)
  have B3 := Lib.hid (below_go B2.out n3)
  have C3 := Lib.hid (CR.out.below n3)
  have A3 : Hid (AB (w2.alloc (.cells #[.slice Ap kp cp, .int .u32 (Va : Int), .int .u32 (Vb : Int), .slice Ae ke ce] 36)) w2.heap.size Ap kp cp Va Vb Ae ke ce) := Lib.hid (heap_alloc_new w2 _)
  clear n3 P2 B2 CR
  generalize w2.alloc (.cells #[.slice Ap kp cp, .int .u32 (Va : Int), .int .u32 (Vb : Int), .slice Ae ke ce] 36) = w3 at P3 B3 C3 A3 ⊢
  generalize w2.heap.size = g at A3 ⊢
  by_cases hm : Vm = 0
  · have m1 : (Vm != 0) = false := by simp [hm]
    have HM := Lib.hid hm
    clear hm
    by_cases hn : 1099511627776 < next
    · have d1 : decide ((1099511627776 : Int) < (next : Int)) = true := by simp; omega
      have d1' : decide (1099511627776 < next) = true := by simp; omega
      have HN := Lib.hid hn
      clear hn
      go_wp2_with fail
      exact bodyPost_ret (results_tmp2 rfl _ _ _) rfl (Or.inr (Or.inl ⟨HM.out, HN.out, rfl, B3.out⟩))
    · have d1 : decide ((1099511627776 : Int) < (next : Int)) = false := by simp; omega
      have d1' : decide (1099511627776 < next) = false := by simp; omega
      have HN := Lib.hid hn
      clear hn
      have k1 := P3.out.c1
      obtain ⟨a0, a1, a2, a3, _⟩ := A3.out.cells
      have n4 := below_alloc w3 (enobj ⟨Ap, kp, cp, Va, Vb, Ae, ke, ce, win, next, 0, false, 0, none, 0, 0⟩)
      have E4 : Hid (EnB (w3.alloc (enobj ⟨Ap, kp, cp, Va, Vb, Ae, ke, ce, win, next, 0, false, 0, none, 0, 0⟩)) w3.heap.size ⟨Ap, kp, cp, Va, Vb, Ae, ke, ce, win, next, 0, false, 0, none, 0, 0⟩) := Lib.hid (heap_alloc_new w3 _)
      have B4 := Lib.hid (below_go B3.out n4)
      have N4 := Lib.hid n4
      clear n4
      go_wp2_with fail
      exact bodyPost_ret (results_tmp2 rfl _ _ _) rfl (Or.inr (Or.inr ⟨HM.out, by have := HN.out; omega, w3.heap.size, Ap, kp, cp, Ae, ke, ce, Ps, Es, w3, rfl, B3.out.size, Lib.hid ⟨E4.out, C3.out, MP.out, B3.out, N4.out, Nat.le_refl _⟩, B4.out⟩))
  · have m1 : (Vm != 0) = true := by simp [hm]
    have HM := Lib.hid hm
    clear hm
    go_wp2_with fail
    exact bodyPost_ret (results_tmp2 rfl _ _ _) rfl (Or.inl ⟨HM.out, rfl, B3.out⟩)
set_option maxHeartbeats 2000000 in
theorem next_any (d : Nat) (e : En) (w : World) (h : EnB w d e) : Calls Tryz.prog 31 #[.pointer (some ⟨d, 0, none⟩)] w fun en w' => en = .returned (.int .u64 (e.next : Int)) ∧ Below w.heap.size w w' := by
  have c5 := h.cells.2.2.2.2.2.1
  have HB := Lib.hid (Below.refl w.heap.size w)
  clear h
  go_enter Tryz.func31, Tryz.ntmps31
  go_wp2_with fail
  go_ret
  exact ⟨rfl, HB.out⟩
end Go.Proofs.YtpnllbojifnopaaGreatDoor
