/- The document's Next. -/
import Derived.Test.YtnomegopjdgbjaaDuRef
namespace Go.Proofs.Ytnomegopjdgbjaa
open Go Go.RowKit
set_option maxRecDepth 20000

/- the place of the first one among the first i -/
def Lst (l : List E) (i b : Nat) : Prop := b < i ∧ ∀ k, k < i → lt (g l k) (g l b) = false
theorem Lst.start (l : List E) : Lst l 1 0 := by
  refine ⟨by omega, fun k hk => ?_⟩
  obtain rfl : k = 0 := by omega
  exact lt_irr _
theorem Lst.new {l : List E} {i b : Nat} (h : Lst l i b) (hc : lt (g l i) (g l b) = true) : Lst l (i + 1) i := ⟨by omega, fun k hk => by
  rcases Nat.lt_or_ge k i with c | c
  · exact le_trans (lt_asymm hc) (h.2 k c)
  · obtain rfl : k = i := by omega
    exact lt_irr _⟩
theorem Lst.old {l : List E} {i b : Nat} (h : Lst l i b) (hc : lt (g l i) (g l b) = false) : Lst l (i + 1) b := ⟨by have := h.1; omega, fun k hk => by
  rcases Nat.lt_or_ge k i with c | c
  · exact h.2 k c
  · obtain rfl : k = i := by omega
    exact hc⟩
theorem below_drewN {B : Nat} {w W : World} (h : Below B w W) (q : Nat) : Below B w (W.drewN q) := ⟨h.os, h.tape, h.output, h.size, h.block⟩
theorem rnext_nil (w : World) (A : Option Addr) (c : Nat) : Calls Try.prog 12 #[.slice A 0 c] w fun e w' => e = .returned (.int .i64 (-1)) ∧ w' = w := by
  go_enter Try.func12, Try.ntmps12
  go_wp2_with fail
  refine wp_loop_rounds 1 ?_
  rw [rounds_succ]
  go_wp2_with fail
  go_ret
  exact ⟨rfl, rfl⟩
set_option maxHeartbeats 4000000 in
theorem rnext_some (w : World) (A : Option Addr) (n c : Nat) (l : List E) (hl : l.length = n) (hp : Prs w A l) (h0 : 0 < n) (hn : n ≤ 100000) :
    Calls Try.prog 12 #[.slice A n c] w fun e w' => ∃ b : Nat, e = .returned (.int .i64 (b : Int)) ∧ Lst l n b ∧ Below w.heap.size w w' := by
  have HP := Lib.hid hp
  have HL := Lib.hid hl
  clear hp hl
  go_enter Try.func12, Try.ntmps12
  go_wp2_with fail
  go_loopw [3, 7] (fun t s wr => ∃ (i : Nat) (r : Int), s = .int .i64 i ∧ t = .int .i64 r ∧ i ≤ n ∧ Hid (((i = 0 ∧ r = -1) ∨ ∃ b : Nat, r = b ∧ Lst l i b) ∧ Below w.heap.size w wr)) (fun _ s _ => n - (intOf s).toNat)
  case atStart => exact ⟨0, -1, rfl, rfl, by omega, .inl ⟨rfl, rfl⟩, Below.refl _ _⟩
  case round =>
    obtain ⟨i, r, rfl, rfl, hi, H⟩ := hrel
    by_cases ci : i < n
    · have ci' : (i : Int) < (n : Int) := by omega
      have ci0 : (0 : Int) ≤ (i : Int) := by omega
      have BB := Lib.hid H.out.2
      rcases H.out.1 with ⟨rfl, rfl⟩ | ⟨b, rfl, hL⟩
      · clear H
        have td : decide ((-1 : Int) < 0) = true := by decide
        go_wp2_with fail
        go_quiet (fail)
        go_wp2_with fail
        go_roundw
        case rel => exact ⟨1, 0, by go_num, by go_num, by omega, .inr ⟨0, rfl, Lst.start l⟩, below_drewN BB.out _⟩
        case measure => simp [intOf]; omega
      · have hb := hL.1
        obtain ⟨g0, off, rfl, x1, x2⟩ := (HP.out.below H.out.2) i (by have := HL.out; omega)
        obtain ⟨g1, off1, e1, z1, z2⟩ := (HP.out.below H.out.2) b (by have := HL.out; omega)
        injection e1 with e1
        injection e1 with e1 e2
        subst e1 e2
        have hb' : (b : Int) < (n : Int) := by omega
        have hb0 : (0 : Int) ≤ (b : Int) := by omega
        have td : decide ((b : Int) < 0) = false := by simp
        have NEW := Lib.hid (fun h => hL.new h)
        have OLD := Lib.hid (fun h => hL.old h)
        clear H hL
        generalize g l i = y at *
        generalize g l b = z at *
        obtain ⟨y1, y2⟩ := y
        obtain ⟨z3, z4⟩ := z
        simp only at x1 x2 z1 z2
        by_cases t1 : y2 < z4
        · have t1' : decide (y2 < z4) = true := by simpa using t1
          have N1 := Lib.hid (NEW.out (by simp [lt, t1]))
          clear NEW OLD t1
          go_wp2_with fail
          go_quiet (fail)
          go_wp2_with fail
          go_roundw
          case rel => exact ⟨i + 1, (i : Int), by go_num, by go_num, by omega, .inr ⟨i, rfl, N1.out⟩, below_drewN BB.out _⟩
          case measure => simp [intOf]; omega
        · have t1' : decide (y2 < z4) = false := by simpa using t1
          by_cases t2 : y2 = z4
          · subst t2
            by_cases t3 : y1 < z3
            · have t3' : decide (y1 < z3) = true := by simpa using t3
              have N1 := Lib.hid (NEW.out (by simp [lt, t3]))
              clear NEW OLD t1 t3
              go_wp2_with fail
              go_quiet (fail)
              go_wp2_with fail
              go_roundw
              case rel => exact ⟨i + 1, (i : Int), by go_num, by go_num, by omega, .inr ⟨i, rfl, N1.out⟩, below_drewN BB.out _⟩
              case measure => simp [intOf]; omega
            · have t3' : decide (y1 < z3) = false := by simpa using t3
              have N1 := Lib.hid (OLD.out (by simp [lt]; omega))
              clear NEW OLD t1 t3
              go_wp2_with fail
              go_quiet (fail)
              go_wp2_with fail
              go_roundw
              case rel => exact ⟨i + 1, (b : Int), by go_num, by go_num, by omega, .inr ⟨b, rfl, N1.out⟩, below_drewN BB.out _⟩
              case measure => simp [intOf]; omega
          · have t2' : (y2 == z4) = false := by simpa using t2
            have t2'' : ¬ ((y2 : Int) = (z4 : Int)) := by omega
            have N1 := Lib.hid (OLD.out (by simp [lt, t1, t2]))
            clear NEW OLD t1 t2
            go_wp2_with fail
            go_quiet (fail)
            go_wp2_with fail
            go_roundw
            case rel => exact ⟨i + 1, (b : Int), by go_num, by go_num, by omega, .inr ⟨b, rfl, N1.out⟩, below_drewN BB.out _⟩
            case measure => simp [intOf]; omega
    · obtain rfl : i = n := by omega
      rcases H.out.1 with ⟨h1, _⟩ | ⟨b, rfl, hL⟩
      · omega
      · have L1 := Lib.hid hL
        have BB := Lib.hid H.out.2
        clear H hL ci
        go_wp2_with fail
        go_ret
        exact ⟨b, rfl, L1.out, BB.out⟩
end Go.Proofs.Ytnomegopjdgbjaa
