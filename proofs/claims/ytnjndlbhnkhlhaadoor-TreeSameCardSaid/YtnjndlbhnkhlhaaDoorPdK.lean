/- Rows of one's own, kept. -/
import Derived.Test.YtnjndlbhnkhlhaaDoorPdR
import Derived.Test.YtnjndlbhnkhlhaaDoorLbKeep
namespace Go.Proofs.YtnjndlbhnkhlhaaDoor
open Go Go.RowKit Pk Rl
set_option maxRecDepth 20000

theorem cell_set_ne (w : World) (g i : Nat) (x : Value) (r j : Nat) (h : r ≠ g) : (w.setCell ⟨g, i, none⟩ x).cell? ⟨r, j, none⟩ = w.cell? ⟨r, j, none⟩ := World.cell?_of_block (heap_setCell_other w ⟨g, i, none⟩ r x h)
theorem cell_alloc_lt (w : World) (o : Obj) (r j : Nat) (h : r < w.heap.size) : (w.alloc o).cell? ⟨r, j, none⟩ = w.cell? ⟨r, j, none⟩ := (below_alloc w o).cell (p := ⟨r, j, none⟩) h
theorem cell_drew (w : World) (p : Addr) : w.drew.cell? p = w.cell? p := rfl
theorem OwnV.keep {w : World} {B : Nat} {A : Option Addr} {k c : Nat} {L : List VV} (h : OwnV w B (.slice A k c) L) (F : World) (hF : ∀ r j, B ≤ r → r < w.heap.size → F.cell? ⟨r, j, none⟩ = w.cell? ⟨r, j, none⟩) : Vals F A L := by
  intro i hi
  obtain ⟨b, off, e, c0, c1, c2, c3⟩ := h.vals i hi
  have hB : B ≤ b := by
    rcases h.2 with ⟨h', _⟩ | ⟨g, cap, cur, h', hg, _⟩
    · injection h' with e1 _ _
      rw [e1] at e
      cases e
    · injection h' with e1 _ _
      rw [e1] at e
      injection e with e
      injection e with e
      omega
  have hb : b < w.heap.size := World.block_lt_of_cell? _ _ c0
  exact ⟨b, off, e, by rw [hF b _ hB hb]; exact c0, by rw [hF b _ hB hb]; exact c1, by rw [hF b _ hB hb]; exact c2, by rw [hF b _ hB hb]; exact c3⟩
theorem OwnT.keep {w : World} {B : Nat} {A : Option Addr} {k c : Nat} {L : List TT} (h : OwnT w B (.slice A k c) L) (F : World) (hF : ∀ r j, B ≤ r → r < w.heap.size → F.cell? ⟨r, j, none⟩ = w.cell? ⟨r, j, none⟩) : Tsts F A L := by
  intro i hi
  obtain ⟨b, off, e, c0, c1, c2, c3, c4, c5⟩ := h.vals i hi
  have hB : B ≤ b := by
    rcases h.2 with ⟨h', _⟩ | ⟨g, cap, cur, h', hg, _⟩
    · injection h' with e1 _ _
      rw [e1] at e
      cases e
    · injection h' with e1 _ _
      rw [e1] at e
      injection e with e
      injection e with e
      omega
  have hb : b < w.heap.size := World.block_lt_of_cell? _ _ c0
  exact ⟨b, off, e, by rw [hF b _ hB hb]; exact c0, by rw [hF b _ hB hb]; exact c1, by rw [hF b _ hB hb]; exact c2, by rw [hF b _ hB hb]; exact c3, by rw [hF b _ hB hb]; exact c4, by rw [hF b _ hB hb]; exact c5⟩
end Go.Proofs.YtnjndlbhnkhlhaaDoor
