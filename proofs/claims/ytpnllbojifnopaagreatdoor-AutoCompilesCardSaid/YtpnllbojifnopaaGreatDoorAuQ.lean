/- Edges in order. -/
import Derived.Test.YtpnllbojifnopaaGreatDoorAuPt
import Derived.Test.YtpnllbojifnopaaGreatDoorDnLay
import Derived.Deep.RegionHeld3
import Derived.LoopN
namespace Go.Proofs.YtpnllbojifnopaaGreatDoor
open Go Go.RowKit Pk Rl
open Go.Sort (grow)
set_option maxRecDepth 20000

def cfo (x y : Int) : Int := if x = 0 then y else x
set_option maxHeartbeats 1000000 in
theorem or_any (b : Nat) (x y : Int) (w : World) (h0 : w.cell? ⟨b, 0, none⟩ = some (.int .i64 x)) (h1 : w.cell? ⟨b, 1, none⟩ = some (.int .i64 y)) :
    Calls Tryz.prog 88 #[.slice (some ⟨b, 0, none⟩) 2 2] w fun e w' => e = .returned (.int .i64 (cfo x y)) ∧ w' = w := by
  by_cases hx : x = 0
  · have E := Lib.hid (show cfo x y = y from if_pos hx)
    subst hx
    by_cases hy : y = 0
    · subst hy
      go_enter Tryz.func88, Tryz.ntmps88
      go_wp2
      refine wp_loop_rounds 3 ?_
      rw [rounds_succ]
      go_wp2
      rw [rounds_succ]
      go_wp2
      rw [rounds_succ]
      go_wp2
      go_ret
      exact ⟨by rw [E.out]; rfl, rfl⟩
    · have e1 : (y != 0) = true := by simpa using hy
      go_enter Tryz.func88, Tryz.ntmps88
      go_wp2
      refine wp_loop_rounds 3 ?_
      rw [rounds_succ]
      go_wp2
      rw [rounds_succ]
      go_wp2
      go_ret
      exact ⟨by rw [E.out]; rfl, rfl⟩
  · have E := Lib.hid (show cfo x y = x from if_neg hx)
    have e1 : (x != 0) = true := by simpa using hx
    go_enter Tryz.func88, Tryz.ntmps88
    go_wp2
    refine wp_loop_rounds 3 ?_
    rw [rounds_succ]
    go_wp2
    go_ret
    exact ⟨by rw [E.out]; rfl, rfl⟩
theorem cmp8_any (x y : Nat) (w : World) :
    Calls Tryz.prog 89 #[.int .u8 (x : Int), .int .u8 (y : Int)] w fun e w' => e = .returned (.int .i64 (c3 x y)) ∧ w = w' := by
  unfold c3
  by_cases a : (x : Int) < y
  · rw [if_pos a]
    have h1 : decide (x < y) = true := by simp; omega
    go_enter Tryz.func89, Tryz.ntmps89
    go_wp2_with go_in
    go_ret
    exact ⟨rfl, rfl⟩
  · have h1 : decide (x < y) = false := by simp; omega
    rw [if_neg a]
    by_cases c : (y : Int) < x
    · rw [if_pos c]
      have h2 : decide (y < x) = true := by simp; omega
      go_enter Tryz.func89, Tryz.ntmps89
      go_wp2_with go_in
      go_ret
      exact ⟨rfl, rfl⟩
    · rw [if_neg c]
      have h2 : decide (y < x) = false := by simp; omega
      go_enter Tryz.func89, Tryz.ntmps89
      go_wp2_with go_in
      go_ret
      exact ⟨rfl, rfl⟩
def Gw (w W : World) : Prop := ∃ q os, W = grow (w.drewN q) os
theorem Gw.alloc {w W : World} (h : Gw w W) (o : Obj) : Gw w (W.alloc o) := by
  obtain ⟨q, os, rfl⟩ := h
  exact ⟨q, os ++ #[o], by rw [Go.Sort.alloc_eq_grow, Go.Sort.grow_grow]⟩
theorem Gw.drew {w W : World} (h : Gw w W) : Gw w W.drew := by
  obtain ⟨q, os, rfl⟩ := h
  exact ⟨q + 1, os, rfl⟩
theorem Gw.refl (w : World) : Gw w w := ⟨0, #[], by rw [Go.Sort.grow_empty]; rfl⟩
def cfE (x y : Ed) : Int := cfo (c3 x.f y.f) (c3 x.t y.t)
abbrev eobjE (e : Ed) : Obj := .cells #[.int .u8 (e.f : Int), .int .u8 (e.t : Int), .bool e.y, .bool e.g.x, .int .u8 e.g.t, .slice e.g.a e.g.n e.g.c] 47
abbrev Ko (w W : World) (h a1 a2 b1 b2 : Nat) : Prop := W.cell? ⟨h, 0, none⟩ = some (.int .u8 (a1 : Int)) ∧ W.cell? ⟨h, 1, none⟩ = some (.int .u8 (a2 : Int)) ∧ W.cell? ⟨h + 1, 0, none⟩ = some (.int .u8 (b1 : Int)) ∧ W.cell? ⟨h + 1, 1, none⟩ = some (.int .u8 (b2 : Int)) ∧ Hid (Gw w W)
theorem ko_alloc {w W : World} {h a1 a2 b1 b2 : Nat} (o : Obj) (K : Ko w W h a1 a2 b1 b2) : Ko w (W.alloc o) h a1 a2 b1 b2 := by
  have hb := below_alloc W o
  have k : ∀ (g j : Nat) v, W.cell? ⟨g, j, none⟩ = some v → (W.alloc o).cell? ⟨g, j, none⟩ = some v := fun g j v hv => (hb.cell (p := ⟨g, j, none⟩) (World.block_lt_of_cell? _ _ hv)).trans hv
  exact ⟨k _ _ _ K.1, k _ _ _ K.2.1, k _ _ _ K.2.2.1, k _ _ _ K.2.2.2.1, Lib.hid (K.2.2.2.2.out.alloc o)⟩
set_option maxHeartbeats 4000000 in
theorem inOrder_any (x y : Ed) (w : World) :
    Calls Tryz.prog 46 #[eOf x, eOf y] w fun e w' => e = .returned (.int .i64 (cfE x y)) ∧ ∃ q os, w' = grow (w.drewN q) os := by
  obtain ⟨a1, a2, ay, ⟨agx, agt, aga, agn, agc, agL⟩⟩ := x
  obtain ⟨b1, b2, b_y, ⟨bgx, bgt, bga, bgn, bgc, bgL⟩⟩ := y
  have C := Lib.hid (fun (p q : Nat) W => cmp8_any p q W)
  have O := Lib.hid (fun (p q : Int) (X : World) => or_any X.heap.size p q (X.alloc (.cells #[.int .i64 p, .int .i64 q] 3)).drew (by simp [go_sem]) (by simp [go_sem]))
  obtain ⟨w2, hw2⟩ : ∃ W, (w.alloc (eobjE ⟨a1, a2, ay, ⟨agx, agt, aga, agn, agc, agL⟩⟩)).alloc (eobjE ⟨b1, b2, b_y, ⟨bgx, bgt, bga, bgn, bgc, bgL⟩⟩) = W := ⟨_, rfl⟩
  have K2 : Ko w w2 w.heap.size a1 a2 b1 b2 := by
    rw [← hw2]
    exact ⟨by simp [go_sem], by simp [go_sem], by simp [go_sem], by simp [go_sem], Lib.hid (((Gw.refl w).alloc _).alloc _)⟩
  have KD : Hid (Ko w w2.drew w.heap.size a1 a2 b1 b2) := Lib.hid ⟨K2.1, K2.2.1, K2.2.2.1, K2.2.2.2.1, Lib.hid K2.2.2.2.2.out.drew⟩
  have KD2 : Hid (∀ o, Ko w (w2.alloc o).drew w.heap.size a1 a2 b1 b2) := Lib.hid (fun o => by
    have K3 := ko_alloc o K2
    exact ⟨K3.1, K3.2.1, K3.2.2.1, K3.2.2.2.1, Lib.hid K3.2.2.2.2.out.drew⟩)
  show Calls _ _ _ _ fun e w' => e = .returned (.int .i64 (cfo (c3 a1 b1) (c3 a2 b2))) ∧ _
  go_enter Tryz.func46, Tryz.ntmps46
  go_wp2_with fail
  go_region_held3 (fun X => X.cell? ⟨w.heap.size, 0, none⟩ = some (.int .u8 (a1 : Int)) ∧ X.cell? ⟨w.heap.size, 1, none⟩ = some (.int .u8 (a2 : Int)) ∧ X.cell? ⟨w.heap.size + 1, 0, none⟩ = some (.int .u8 (b1 : Int)) ∧ X.cell? ⟨w.heap.size + 1, 1, none⟩ = some (.int .u8 (b2 : Int)) ∧ Hid (Gw w X))
    (first | (with_reducible assumption) | (with_reducible exact KD.out) | (with_reducible exact KD2.out _))
    (first
      | (go_at_call 89; refine Calls.mono (C.out _ _ _) ?_; rintro e w3 ⟨rfl, rfl⟩)
      | (go_at_call 88; refine Calls.mono (O.out _ _ _) ?_; rintro e w4 ⟨rfl, rfl⟩))
  rename_i hHeld
  have G := Lib.hid hHeld.2.2.2.2.out
  clear hHeld
  go_wp2_with fail
  go_ret
  exact ⟨rfl, G.out⟩
end Go.Proofs.YtpnllbojifnopaaGreatDoor
