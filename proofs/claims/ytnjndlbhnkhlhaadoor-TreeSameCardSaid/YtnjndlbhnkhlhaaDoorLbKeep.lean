/- Regions that draw their order and make memory of their own: what lies below a mark is as it was. -/
import Derived.Test.YtnjndlbhnkhlhaaDoorLbOwn
namespace Go.Proofs.YtnjndlbhnkhlhaaDoor
open Go Go.RowKit
set_option maxRecDepth 20000
/- all that lies below m is as it was in w1 -/
theorem mkS {m : Nat} {w1 W : World} (h : Below m w1 W) (z : m ≤ W.heap.size) : (∀ a j, a < m → W.cell? ⟨a, j, none⟩ = w1.cell? ⟨a, j, none⟩) ∧ Hid (Below m w1 W ∧ m ≤ W.heap.size) :=
  ⟨fun a j ha => h.cell (p := ⟨a, j, none⟩) ha, Lib.hid ⟨h, z⟩⟩
theorem sB {m : Nat} {w1 W : World} (h : (∀ a j, a < m → W.cell? ⟨a, j, none⟩ = w1.cell? ⟨a, j, none⟩) ∧ Hid (Below m w1 W ∧ m ≤ W.heap.size)) : Below m w1 W := h.2.out.1
theorem sZ {m : Nat} {w1 W : World} (h : (∀ a j, a < m → W.cell? ⟨a, j, none⟩ = w1.cell? ⟨a, j, none⟩) ∧ Hid (Below m w1 W ∧ m ≤ W.heap.size)) : m ≤ W.heap.size := h.2.out.2
theorem sCall {m : Nat} {w1 W W' : World} (hb : Below W.heap.size W W') (h : (∀ a j, a < m → W.cell? ⟨a, j, none⟩ = w1.cell? ⟨a, j, none⟩) ∧ Hid (Below m w1 W ∧ m ≤ W.heap.size)) :
    (∀ a j, a < m → W'.cell? ⟨a, j, none⟩ = w1.cell? ⟨a, j, none⟩) ∧ Hid (Below m w1 W' ∧ m ≤ W'.heap.size) :=
  mkS ((sB h).trans (hb.mono (sZ h))) (Nat.le_trans (sZ h) hb.size)
end Go.Proofs.YtnjndlbhnkhlhaaDoor
