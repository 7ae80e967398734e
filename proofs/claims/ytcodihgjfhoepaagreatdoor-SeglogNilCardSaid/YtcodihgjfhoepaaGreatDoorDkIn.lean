/- Small facts on blocks and cells. -/
import Derived.Test.YtcodihgjfhoepaaGreatDoorDkMem
namespace Go.Proofs.YtcodihgjfhoepaaGreatDoor
open Go Go.RowKit
set_option maxRecDepth 20000

theorem cell_in {w : World} {g : Nat} {cs : Array Value} {t : TypeId} (h : w.heap[g]? = some (.cells cs t (0, 0))) (i : Nat) : w.cell? ⟨g, i, none⟩ = cs[i]? := by simp [World.cell?, h]
theorem free_in {w : World} {g : Nat} {cs : Array Value} {t : TypeId} (h : w.heap[g]? = some (.cells cs t (0, 0))) (i : Nat) : w.frozen? ⟨g, i, none⟩ = false := by simp [World.frozen?, h]
theorem begun_up {S : St} (h : S.up = true) : begun S = tick S := by unfold begun; rw [h]; rfl
theorem begun_down {S : St} (h : S.up = false) : begun S = S := by unfold begun; rw [h]; rfl
theorem Byt.blk {w w' : World} {A : Option Addr} {l : List Int} (h : Byt w A l) (hb : ∀ x, A = some x → w'.heap[x.block]? = w.heap[x.block]?) : Byt w' A l :=
  ⟨fun i hi => by
    obtain ⟨b, off, e, hc⟩ := h.1 i hi
    exact ⟨b, off, e, (World.cell?_of_block (a := ⟨b, off + i, none⟩) (hb ⟨b, off, none⟩ e)).trans hc⟩, h.2⟩
theorem Own.addr {w : World} {B : Nat} {A : Option Addr} {n c : Nat} {l : List Int} (h : Own w B (.slice A n c) l) : ∀ x, A = some x → B ≤ x.block ∧ x.block < w.heap.size := by
  have hlt := World.ownsRow.lt h
  rcases h.2 with ⟨h0, _⟩ | ⟨g, cap, cur, h0, hg, hh, _⟩
  · injection h0 with e1 e2 e3
    subst e1
    exact fun x e => by cases e
  · injection h0 with e1 e2 e3
    subst e1
    exact fun x e => by
      injection e with e
      subst e
      exact ⟨hg, (hlt g rfl).2⟩
end Go.Proofs.YtcodihgjfhoepaaGreatDoor
