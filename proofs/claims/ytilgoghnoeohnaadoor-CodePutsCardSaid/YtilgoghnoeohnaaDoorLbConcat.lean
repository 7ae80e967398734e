/- The contracts of slices.Grow of no bytes, and of slices.Concat of two slices of bytes. -/
import Derived.Test.YtilgoghnoeohnaaDoorMB
import Derived.Lib.AppendZeros
import Derived.LoopN
namespace Go.Proofs.YtilgoghnoeohnaaDoor
open Go Go.RowKit
set_option maxRecDepth 20000

theorem Own.zeros (w : World) (n : Nat) (hn : n ≤ 1000000) (B : Nat) (hB : B ≤ w.heap.size) :
    Own (w.drew.alloc (.cells (Builtin.zeroCells (Value.int .u8 0).cells n ++ Builtin.zeroCells (Value.int .u8 0).cells (grownCap w n 0 5 - n)) 5)) B (.slice (some ⟨w.heap.size, 0, none⟩) 0 (grownCap w n 0 5)) [] := by
  have h1 := grownCap_ge w n 0 5
  have h2 := grownCap_le_maxLen w n 0 5 (by unfold maxLen; omega)
  refine ⟨by simp, .inr ⟨w.heap.size, grownCap w n 0 5, Builtin.zeroCells (Value.int .u8 0).cells n ++ Builtin.zeroCells (Value.int .u8 0).cells (grownCap w n 0 5 - n), rfl, hB, ?_, Nat.zero_le _, h2, ?_, by simp⟩⟩
  · show (w.drew.heap.push _)[w.drew.heap.size]? = _
    exact Array.getElem?_push_size
  · rw [Array.size_append, size_zeroCells, size_zeroCells]
    simp [Value.cells]
    omega

set_option maxHeartbeats 1000000 in
theorem grow_any (N : Int) (n : Nat) (hN : N = (n : Int)) (hp : 0 < n) (hm : n ≤ 1000000) (w : World) :
    Calls Tryd.prog 80 #[.slice none 0 0, .int .i64 N] w fun e w' => ∃ A c, e = .returned (.slice A 0 c) ∧ Own w' w.heap.size (.slice A 0 c) [] ∧ Below w.heap.size w w' := by
  subst hN
  obtain ⟨i, hi, hz, hs, hy⟩ := info5
  have R := fun ty => Lib.run_append_nil_zeros (P := Tryd.prog) w 32 3 ty 5 i (.int .u8 0) .i64 .i64 Tryd.underlying32 Tryd.underlying3 hi hz n hp (by rw [hs]; omega) (by omega) (by rw [hy]; omega)
  have O := Lib.hid (Own.zeros w n hm w.heap.size (Nat.le_refl _))
  have g1 := grownCap_ge w n 0 5
  have g2 := grownCap_le_maxLen w n 0 5 (by unfold maxLen; omega)
  unfold maxLen at g2
  generalize grownCap w n 0 5 = G at R O g1 g2
  have BB := Lib.hid (((Below.refl w.heap.size w).drew).alloc (Nat.le_refl _) (.cells (Builtin.zeroCells (Value.int .u8 0).cells n ++ Builtin.zeroCells (Value.int .u8 0).cells (G - n)) 5))
  generalize w.drew.alloc (.cells (Builtin.zeroCells (Value.int .u8 0).cells n ++ Builtin.zeroCells (Value.int .u8 0).cells (G - n)) 5) = W at R O BB
  have RR := Lib.hid R
  clear R hz hs hy hi
  go_enter Tryd.func80, Tryd.ntmps80
  go_wp2_with (at_builtin; refine Lib.wpList_append_run _ rfl _ _ _ _ rfl _ _ rfl rfl _ _ (RR.out _) ?_)
  go_ret
  exact ⟨_, _, rfl, O.out, BB.out⟩

set_option maxHeartbeats 1000000 in
theorem concat2_any (g : Nat) (a : Option Addr) (len cap : Nat) (l : List Int) (a2 : Option Addr) (len2 cap2 : Nat) (l2 : List Int) (w : World) (hg : g < w.heap.size)
    (c0 : w.cell? ⟨g, 0, none⟩ = some (.slice a len cap)) (c1 : w.cell? ⟨g, 1, none⟩ = some (.slice a2 len2 cap2)) (hl : l.length = len) (hl2 : l2.length = len2) (hb : Byt w a l) (hb2 : Byt w a2 l2)
    (hn : a = none → cap = 0) (hn2 : a2 = none → cap2 = 0) (hp : 0 < len + len2) (hm : len ≤ 400000) (hm2 : len2 ≤ 400000) :
    Calls Tryd.prog 68 #[.slice (some ⟨g, 0, none⟩) 2 2] w fun e w' => ∃ A' k' c', e = .returned (.slice A' k' c') ∧ (l ++ l2).length = k' ∧ Own w' w.heap.size (.slice A' k' c') (l ++ l2) ∧ Below w.heap.size w w' := by
  have G := Lib.hid (fun N hN => grow_any N (len + len2) hN hp (by omega) w)
  have HL := Lib.hid hl
  have HL2 := Lib.hid hl2
  have HB := Lib.hid hb
  have HB2 := Lib.hid hb2
  have HN := Lib.hid hn
  have HN2 := Lib.hid hn2
  clear hl hl2 hb hb2 hn hn2
  go_enter Tryd.func68, Tryd.ntmps68
  go_wp2
  refine wp_loop_rounds 3 ?_
  rw [rounds_succ]
  go_wp2
  rw [rounds_succ]
  go_wp2
  rw [rounds_succ]
  go_wp2_with fail
  refine (G.out _ (by go_num)).mono ?_
  rintro e w1 ⟨A1, cA, rfl, ho, hbl⟩
  have d0 : w1.cell? ⟨g, 0, none⟩ = some (.slice a len cap) := (hbl.cell (p := ⟨g, 0, none⟩) hg).trans c0
  have d1 : w1.cell? ⟨g, 1, none⟩ = some (.slice a2 len2 cap2) := (hbl.cell (p := ⟨g, 1, none⟩) hg).trans c1
  have O1 := Lib.hid ho
  have B1 := Lib.hid hbl
  have K1 := Lib.hid (show ([] ++ l).length = len by rw [List.nil_append]; exact HL.out)
  have K2 := Lib.hid (show ([] ++ l ++ l2).length = len + len2 by rw [List.nil_append, List.length_append, HL.out, HL2.out])
  have R0 := Lib.hid (show ∀ c ∈ ([] : List Int), 0 ≤ c ∧ c < 256 by simp)
  have R1 := Lib.hid (show ∀ c ∈ [] ++ l, 0 ≤ c ∧ c < 256 by rw [List.nil_append]; exact HB.out.2)
  clear ho hbl G c0 c1
  go_wp2_with fail
  refine wp_loop_rounds 3 ?_
  rw [rounds_succ]
  go_wp2_with (at_builtin; refine wp_app (.tmp 31) (.tmp 32) _ rfl rfl w.heap.size _ [] rfl O1.out a len cap l rfl HL.out (HB.out.below B1.out) HN.out R0.out len K1.out (by omega) B1.out.size ?_; intro A2 cB w2 hO2 _ hb2; have O2 := Lib.hid hO2; have B2 := Lib.hid (B1.out.trans hb2); have dd1 := (B2.out.cell (p := ⟨g, 1, none⟩) hg).trans ((B1.out.cell (p := ⟨g, 1, none⟩) hg).symm.trans d1); clear hO2 hb2)
  rw [rounds_succ]
  go_wp2_with (at_builtin; refine wp_app (.tmp 31) (.tmp 32) _ rfl rfl w.heap.size _ ([] ++ l) rfl O2.out a2 len2 cap2 l2 rfl HL2.out (HB2.out.below B2.out) HN2.out R1.out (len + len2) K2.out (by omega) B2.out.size ?_; intro A3 cC w3 hO3 _ hb3; have O3 := Lib.hid hO3; have B3 := Lib.hid (B2.out.trans hb3); clear hO3 hb3)
  rw [rounds_succ]
  go_wp2_with fail
  go_ret
  exact ⟨A3, len + len2, cC, rfl, by rw [List.length_append, HL.out, HL2.out], by have := O3.out; rwa [List.nil_append] at this, B3.out⟩
end Go.Proofs.YtilgoghnoeohnaaDoor
