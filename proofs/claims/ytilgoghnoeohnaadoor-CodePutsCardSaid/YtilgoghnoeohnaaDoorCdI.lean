/- A node's first byte, its parts' number, its times, its question: read. -/
import Derived.Test.YtilgoghnoeohnaaDoorCdH
namespace Go.Proofs.YtilgoghnoeohnaaDoor
open Go Go.RowKit Pk Rl
set_option maxRecDepth 20000

theorem Fr.cell {r g : Nat} {w w' : World} (h : Fr r g w w') {b j : Nat} {v : Value} (e : w.cell? ⟨b, j, none⟩ = some v) (h1 : b ≠ r) (h2 : b ≠ g) : w'.cell? ⟨b, j, none⟩ = some v :=
  (show w'.cell? ⟨b, j, none⟩ = w.cell? ⟨b, j, none⟩ from World.cell?_of_block (w := w) (h.b b (World.block_lt_of_cell? _ _ e) h1 h2)).trans e
theorem NB.lt {w : World} {g : Nat} {nd : Nd} (h : NB w g nd) : g < w.heap.size := by
  rcases Nat.lt_or_ge g w.heap.size with h1 | h1
  · exact h1
  · unfold NB at h; rw [Array.getElem?_eq_none h1] at h; cases h
theorem NB.free {w : World} {g : Nat} {nd : Nd} (h : NB w g nd) (j : Nat) : w.frozen? ⟨g, j, none⟩ = false := by
  simp [World.frozen?, NB] at h ⊢
  simp [h]
theorem NB.fr {r g b : Nat} {w w' : World} {nd : Nd} (h : NB w b nd) (k : Fr r g w w') (h1 : b ≠ r) (h2 : b ≠ g) : NB w' b nd := by unfold NB; rw [k.b b h.lt h1 h2]; exact h
theorem NB.times {w : World} {g : Nat} {nd : Nd} (h : NB w g nd) (a b : Int) : NB ((w.setCell ⟨g, 8, none⟩ (.int .u8 a)).setCell ⟨g, 9, none⟩ (.int .u8 b)) g { nd with lo := a, hi := b } := by
  unfold NB
  have h1 : (w.setCell ⟨g, 8, none⟩ (.int .u8 a)).heap[g]? = some (nobj { nd with lo := a }) := by rw [heap_setCell_same w g 8 _ _ _ h]; rfl
  rw [heap_setCell_same _ g 9 _ _ _ h1]
  rfl
theorem Byt.fr {r g : Nat} {w w' : World} {b off : Nat} {l : List Int} (h : Byt w (some ⟨b, off, none⟩) l) (k : Fr r g w w') (h1 : b ≠ r) (h2 : b ≠ g) : Byt w' (some ⟨b, off, none⟩) l :=
  ⟨fun i hi => by
    obtain ⟨b', off', e, hc⟩ := h.1 i hi
    injection e with e
    injection e with e1 e2
    subst e1 e2
    exact ⟨b, off, rfl, k.cell hc h1 h2⟩, h.2⟩
theorem ofFirst_any (k : Int) (y : Bool) (w : World) (hk : k = 1 ∨ k = 2 ∨ k = 3 ∨ k = 4) (hy : y = true → k = 2 ∨ k = 4) :
    Calls Tryd.prog 59 #[.int .u8 (if y then k + 16 else k)] w fun e w' => e = .returned (.tuple #[nOf { nz with k := k, y := y }, .bool true]) ∧ Below w.heap.size w w' := by
  cases y
  · rcases hk with rfl | rfl | rfl | rfl <;>
    · go_enter Tryd.func59, Tryd.ntmps59
      go_wp2_with fail
      refine bodyPost_ret (v := .tuple #[nOf { nz with k := _, y := false }, .bool true]) (by simp [results, Tryd.results59, go_sem, *]) rfl ⟨rfl, ?_⟩
      exact below_alloc w _
  · rcases hy rfl with rfl | rfl <;>
    · go_enter Tryd.func59, Tryd.ntmps59
      go_wp2_with fail
      refine bodyPost_ret (v := .tuple #[nOf { nz with k := _, y := true }, .bool true]) (by simp [results, Tryd.results59, go_sem, *]) rfl ⟨rfl, ?_⟩
      exact below_alloc w _
theorem parts_ok (b off len cap i m : Nat) (r : Nat) (A2 : Option Addr) (m2 c2 : Nat) (w : World) (h : Rb w r (.slice (some ⟨b, off, none⟩) len cap) (i : Int) (.slice A2 m2 c2)) (hi : i + 1 ≤ len) (hl : len ≤ 100000) (hc : len ≤ cap)
    (hx : w.cell? ⟨b, off + i, none⟩ = some (.int .u8 (m : Int))) (hbr : b ≠ r) (h2 : 2 ≤ m) (h3 : m < 256) :
    Calls Tryd.prog 61 #[.pointer (some ⟨r, 0, none⟩)] w fun e w' => e = .returned (.tuple #[.int .i64 (m : Int), .int .i64 0]) ∧ Rb w' r (.slice (some ⟨b, off, none⟩) len cap) ((i + 1 : Nat) : Int) (.slice A2 m2 c2) ∧ Fr r r w w' := by
  have BY := Lib.hid (bytes_ok b off len cap 1 i r A2 m2 c2 w h hi hl hc (by omega) (by omega))
  have HX := Lib.hid (fun w' (k : Fr r r w w') => k.cell hx hbr hbr)
  have tq : decide ((m : Int) < 2) = false := by simp; omega
  clear h hx
  go_enter Tryd.func61, Tryd.ntmps61
  go_wp2_with fail
  refine BY.out.mono ?_
  rintro e w1 ⟨rfl, hR, hF⟩
  have x1 := HX.out w1 hF
  have RR := Lib.hid hR
  have FF := Lib.hid hF
  clear hR hF BY HX
  go_wp2_with fail
  go_ret2
  exact ⟨rfl, RR.out, FF.out⟩
end Go.Proofs.YtilgoghnoeohnaaDoor
