/- What keeps rows of one's own, and patterns' boxes, while boxes are filled. -/
import Derived.Test.YtccjflioaajgiaaGreatDoorDnRw
namespace Go.Proofs.YtccjflioaajgiaaGreatDoor
open Go Go.RowKit Go.Maps Pk Rl
set_option maxRecDepth 20000

theorem ownsRow_setP {w : World} {B : Nat} {e : TypeId} {sz : Nat} {v : Value} {n : Nat} {cs : List Value} (h : w.ownsRow B e sz v n cs) {g : Nat} {a : Option Addr} {m c : Nat} {win : Int} (hp : PtB w g a m c win) (he : e ≠ 30) (j : Nat) (x : Value) : (w.setCell ⟨g, j, none⟩ x).ownsRow B e sz v n cs := by
  refine ⟨h.1, ?_⟩
  rcases h.2 with h0 | ⟨r, cap, cur, hv, hr, hh, t⟩
  · exact .inl h0
  · refine .inr ⟨r, cap, cur, hv, hr, ?_, t⟩
    rw [heap_setCell_other w ⟨g, j, none⟩ r x (fun e1 => ?_)]
    · exact hh
    · have e1 : r = g := e1
      unfold PtB at hp
      rw [e1, hp] at hh
      injection hh with hh
      injection hh with _ hh _
      exact absurd hh.symm he
theorem OwnN.setP {w : World} {B : Nat} {v : Value} {D : List Nd} (h : OwnN w B v D) {g : Nat} {a : Option Addr} {m c : Nat} {win : Int} (hp : PtB w g a m c win) (j : Nat) (x : Value) : OwnN (w.setCell ⟨g, j, none⟩ x) B v D :=
  ⟨ownsRow_setP h.1 hp (by decide) j x, fun n hn => by
    obtain ⟨h1, h2, h3⟩ := h.2 n hn
    exact ⟨⟨ownsRow_setP h1.own hp (by decide) j x, h1.len, h1.few, h1.ok, h1.dis⟩, ⟨ownsRow_setP h2.own hp (by decide) j x, h2.len, h2.few, h2.ok, h2.dis⟩, h3⟩⟩
theorem OwnLg.setP {w : World} {B : Nat} {v : Value} {R : List Lg} (h : OwnLg w B v R) {g : Nat} {a : Option Addr} {m c : Nat} {win : Int} (hp : PtB w g a m c win) (j : Nat) (x : Value) : OwnLg (w.setCell ⟨g, j, none⟩ x) B v R :=
  ⟨ownsRow_setP h.own hp (by decide) j x, fun y hy => by
    have k := h.ev y hy
    exact ⟨ownsRow_setP k.own hp (by decide) j x, k.len, k.few, k.ok, k.sz, k.at64⟩⟩
theorem OwnN.drewn {w : World} {B : Nat} {v : Value} {D : List Nd} (h : OwnN w B v D) : OwnN w.drew B v D := h.below (Below.refl _ _).drew
theorem OwnLg.drewn {w : World} {B : Nat} {v : Value} {R : List Lg} (h : OwnLg w B v R) : OwnLg w.drew B v R := h.below (Below.refl _ _).drew
theorem PtB.drewn {w : World} {g : Nat} {a : Option Addr} {n c : Nat} {win : Int} (h : PtB w g a n c win) : PtB w.drew g a n c win := h
theorem PtB.alloc' {w : World} {g : Nat} {a : Option Addr} {n c : Nat} {win : Int} (hg : g = w.heap.size) : PtB (w.alloc (ptobj a n c win)) g a n c win := hg ▸ PtB.alloc w a n c win
theorem PtB.set1 {w : World} {g : Nat} {a : Option Addr} {n c : Nat} {win : Int} (h : PtB w g a n c win) (win' : Int) : PtB (w.setCell ⟨g, 1, none⟩ (.int .u64 win')) g a n c win' := by
  unfold PtB
  rw [heap_setCell_same w g 1 _ _ _ h]
  rfl
/- from one world to a later one: what older blocks hold -/
structure Up (W W' : World) : Prop where
  c : ∀ a j, a < W.heap.size → W'.cell? ⟨a, j, none⟩ = W.cell? ⟨a, j, none⟩
  f : ∀ a j, a < W.heap.size → W'.frozen? ⟨a, j, none⟩ = W.frozen? ⟨a, j, none⟩
  z : W.heap.size ≤ W'.heap.size
theorem Up.of {W W' : World} (h : Below W.heap.size W W') : Up W W' := ⟨fun a j ha => h.cell (p := ⟨a, j, none⟩) ha, fun a j ha => h.frozen (p := ⟨a, j, none⟩) ha, h.size⟩
theorem Up.trans {a b c : World} (h : Up a b) (k : Up b c) : Up a c := ⟨fun x j hx => (k.c x j (Nat.lt_of_lt_of_le hx h.z)).trans (h.c x j hx), fun x j hx => (k.f x j (Nat.lt_of_lt_of_le hx h.z)).trans (h.f x j hx), Nat.le_trans h.z k.z⟩
theorem Up.lt {W W' : World} (h : Up W W') (a : Nat) (ha : a < W.heap.size) : a < W'.heap.size := Nat.lt_of_lt_of_le ha h.z
end Go.Proofs.YtccjflioaajgiaaGreatDoor
