/- A reading in its box; the next bytes. -/
import Derived.Test.YtilgoghnoeohnaaDoorCdG
import Derived.BigQuiet
import Derived.BigRegion
namespace Go.Proofs.YtilgoghnoeohnaaDoor
open Go Go.RowKit Pk Rl
set_option maxRecDepth 20000

/- a reading in a block of its own -/
def Rb (w : World) (r : Nat) (S : Value) (i : Int) (N : Value) : Prop := w.heap[r]? = some (.cells #[S, .int .i64 i, N] 67 (0, 0))
theorem Rb.cells {w : World} {r : Nat} {A A2 : Option Addr} {m m2 c c2 : Nat} {i : Int} (h : Rb w r (.slice A m c) i (.slice A2 m2 c2)) : w.cell? ⟨r, 0, none⟩ = some (.slice A m c) ∧ w.cell? ⟨r, 1, none⟩ = some (.int .i64 i) ∧ w.cell? ⟨r, 2, none⟩ = some (.slice A2 m2 c2) := by
  refine ⟨?_, ?_, ?_⟩ <;> (rw [cell_of_row w r _ _ _ _ h]; rfl)
theorem Rb.free {w : World} {r : Nat} {S : Value} {i : Int} {N : Value} (h : Rb w r S i N) (j : Nat) : w.frozen? ⟨r, j, none⟩ = false := by
  simp [World.frozen?, Rb] at h ⊢
  simp [h]
theorem Rb.lt {w : World} {r : Nat} {S : Value} {i : Int} {N : Value} (h : Rb w r S i N) : r < w.heap.size := by
  rcases Nat.lt_or_ge r w.heap.size with h1 | h1
  · exact h1
  · unfold Rb at h; rw [Array.getElem?_eq_none h1] at h; cases h
theorem Rb.next {w w' : World} {r : Nat} {S : Value} {i : Int} {N : Value} (h : Rb w r S i N) (hb : Below w.heap.size w w') : Rb w' r S i N := by unfold Rb; rw [hb.block r h.lt]; exact h
theorem Rb.to {w : World} {r : Nat} {S : Value} {i : Int} {N : Value} (h : Rb w r S i N) (j : Int) : Rb (w.setCell ⟨r, 1, none⟩ (.int .i64 j)) r S j N := by
  unfold Rb
  rw [heap_setCell_same w r 1 _ _ _ h]
  rfl
theorem Rb.row {w : World} {r : Nat} {S : Value} {i : Int} {N : Value} (h : Rb w r S i N) (M : Value) : Rb (w.setCell ⟨r, 2, none⟩ M) r S i M := by
  unfold Rb
  rw [heap_setCell_same w r 2 _ _ _ h]
  rfl
theorem Rb.other {w : World} {r : Nat} {S : Value} {i : Int} {N : Value} (h : Rb w r S i N) (g j : Nat) (v : Value) (hne : r ≠ g) : Rb (w.setCell ⟨g, j, none⟩ v) r S i N := by
  unfold Rb
  rw [heap_setCell_other w ⟨g, j, none⟩ r v hne]
  exact h
/- all but two blocks stay -/
structure Fr (r g : Nat) (w w' : World) : Prop where
  o : Below 0 w w'
  b : ∀ x, x < w.heap.size → x ≠ r → x ≠ g → w'.heap[x]? = w.heap[x]?
theorem Fr.z {r g : Nat} {w w' : World} (h : Fr r g w w') : w.heap.size ≤ w'.heap.size := h.o.size
theorem Fr.of_below {r g : Nat} {w w' : World} (h : Below w.heap.size w w') : Fr r g w w' := ⟨h.mono (Nat.zero_le _), fun x hx _ _ => h.block x hx⟩
theorem Fr.trans {r g : Nat} {a b c : World} (h : Fr r g a b) (k : Fr r g b c) : Fr r g a c := ⟨h.o.trans k.o, fun x hx h1 h2 => by rw [k.b x (Nat.lt_of_lt_of_le hx h.z) h1 h2]; exact h.b x hx h1 h2⟩
theorem Fr.next {r g : Nat} {a b c : World} (h : Fr r g a b) (k : Below b.heap.size b c) : Fr r g a c := h.trans (Fr.of_below k)
theorem Fr.set {r g : Nat} {a w : World} (h : Fr r g a w) (y j : Nat) (v : Value) (hy : y = r ∨ y = g) : Fr r g a (w.setCell ⟨y, j, none⟩ v) :=
  h.trans ⟨(Below.refl 0 w).setCell (p := ⟨y, j, none⟩) (Nat.zero_le _) v, fun x _ h1 h2 => heap_setCell_other w ⟨y, j, none⟩ x v (by rcases hy with rfl | rfl <;> assumption)⟩
theorem Fr.refl (r g : Nat) (w : World) : Fr r g w w := ⟨Below.refl _ _, fun _ _ _ _ => rfl⟩
theorem Fr.wide {r g : Nat} {a b : World} (h : Fr r r a b) : Fr r g a b := ⟨h.o, fun x hx h1 _ => h.b x hx h1 h1⟩
theorem Fr.drop {r g : Nat} {a b : World} (h : Fr r g a b) (hg : a.heap.size ≤ g) : Fr r r a b := ⟨h.o, fun x hx h1 _ => h.b x hx h1 (by omega)⟩
theorem Fr.below {r g B : Nat} {a b : World} (h : Fr r g a b) (h1 : B ≤ r) (h2 : B ≤ g) (h3 : B ≤ a.heap.size) : Below B a b := ⟨h.o.os, h.o.tape, h.o.output, h.o.size, fun x hx => h.b x (by omega) (by omega) (by omega)⟩
set_option maxHeartbeats 2000000 in
theorem bytes_ok (b off len cap n i : Nat) (r : Nat) (A2 : Option Addr) (m2 c2 : Nat) (w : World) (h : Rb w r (.slice (some ⟨b, off, none⟩) len cap) (i : Int) (.slice A2 m2 c2)) (hi : i + n ≤ len) (hl : len ≤ 100000) (hc : len ≤ cap) (hn : n ≤ 2) (hn0 : 1 ≤ n) :
    Calls Tryd.prog 58 #[.pointer (some ⟨r, 0, none⟩), .int .i64 (n : Int)] w fun e w' => e = .returned (.tuple #[.slice (some ⟨b, off + i, none⟩) n (cap - i), .int .i64 0]) ∧ Rb w' r (.slice (some ⟨b, off, none⟩) len cap) ((i + n : Nat) : Int) (.slice A2 m2 c2) ∧ Fr r r w w' := by
  obtain ⟨v0, v1, v2⟩ := h.cells
  have f1 := h.free 1
  have H := Lib.hid h
  have tq : decide ((len : Int) - (i : Int) < (n : Int)) = false := by simp; omega
  have hw : IntKind.i64.wrap ((i : Int) + (n : Int)) = ((i + n : Nat) : Int) := by rw [IntKind.wrap_i64]; omega
  have hw2 : IntKind.i64.wrap ((len : Int) - (i : Int)) = (len : Int) - (i : Int) := by rw [IntKind.wrap_i64]; omega
  have SL : ∀ W, (Instr.slice 32 (.slice (some ⟨b, off, none⟩) len cap) (some (.int .i64 (i : Int))) (some (.int .i64 ((i + n : Nat) : Int))) none).run Tryd.prog W = .ok (.slice (some ⟨b, off + i, none⟩) n (cap - i)) W := fun W => by
    rw [run_slice_lh (P := Tryd.prog) (w := W) 32 (some ⟨b, off, none⟩) len cap (by rw [show Tryd.prog.elem 32 = 5 by kernel_rfl]; exact Tryd.underlying32) .i64 .i64 (i : Int) ((i + n : Nat) : Int) (by omega) (by omega) (by omega), show Tryd.prog.elem 32 = 5 by kernel_rfl]
    simp [sizeOf, go_sem, show Tryd.t5.size = 1 by kernel_rfl, sliced, show ¬ cap = i by omega]
    omega
  have RR : ∀ W, Below w.heap.size w W → Rb (W.setCell ⟨r, 1, none⟩ (.int .i64 ((i + n : Nat) : Int))) r (.slice (some ⟨b, off, none⟩) len cap) ((i + n : Nat) : Int) (.slice A2 m2 c2) ∧ Fr r r w (W.setCell ⟨r, 1, none⟩ (.int .i64 ((i + n : Nat) : Int))) := fun W hW =>
    ⟨(H.out.next hW).to _, (Fr.of_below hW).set r 1 _ (.inl rfl)⟩
  have RRH := Lib.hid RR
  clear h RR H
  go_enter Tryd.func58, Tryd.ntmps58
  go_wp2_with fail
  go_region
  go_wp2_with fail
  go_region
  go_wp2_with fail
  go_ret2
  exact ⟨by simp, RRH.out _ ((Below.refl _ _).drew.drew)⟩
end Go.Proofs.YtilgoghnoeohnaaDoor
