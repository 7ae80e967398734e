/- Contracts, joined: DmA, DmB, DmC, DmD, DmG. -/
import Derived.Test.YtpnllbojifnopaaGreatDoorDnA
import Derived.Test.YtpnllbojifnopaaGreatDoorMB
import Derived.Laws.MakeOwn
import Derived.Laws.AppendOwnNone
import Derived.Maps.AppendAt
import Derived.Test.YtpnllbojifnopaaGreatDoorMG
import Derived.BigRegion
import Derived.Deep.DeepCutAuto
import Derived.Test.YtpnllbojifnopaaGreatDoorZMLV
import Derived.Test.YtpnllbojifnopaaGreatDoorZPdRHo
namespace Go.Proofs.YtpnllbojifnopaaGreatDoor
open Go Go.RowKit Go.Maps Pk Rl
set_option maxRecDepth 20000
def rowV (N : Nat) (x : Nat × Nat) : Value := .slice (some ⟨x.1, 0, none⟩) N x.2
def rowVs (N : Nat) (r : List (Nat × Nat)) : List Value := r.map (rowV N)
structure Brow (w : World) (B N : Nat) (x : Nat × Nat) (f : Nat → Bool) : Prop where
  big : B ≤ x.1
  cap : N ≤ x.2
  ex : ∃ cur, w.heap[x.1]? = some (.cells cur 4 (0, 0)) ∧ cur.size = x.2 ∧ ∀ j, j < N → cur[j]? = some (.bool (f j))
theorem Brow.same {w w' : World} {B N : Nat} {x : Nat × Nat} {f : Nat → Bool} (h : Brow w B N x f) (e : w'.heap[x.1]? = w.heap[x.1]?) : Brow w' B N x f := by
  obtain ⟨cur, h1, h2, h3⟩ := h.ex
  exact ⟨h.big, h.cap, cur, by rw [e]; exact h1, h2, h3⟩
theorem Brow.lt {w : World} {B N : Nat} {x : Nat × Nat} {f : Nat → Bool} (h : Brow w B N x f) : x.1 < w.heap.size := by
  obtain ⟨cur, h1, _⟩ := h.ex
  exact (Array.getElem?_eq_some_iff.1 h1).1
theorem Brow.congr {w : World} {B N : Nat} {x : Nat × Nat} {f g : Nat → Bool} (h : Brow w B N x f) (e : ∀ j, j < N → f j = g j) : Brow w B N x g := by
  obtain ⟨cur, h1, h2, h3⟩ := h.ex
  exact ⟨h.big, h.cap, cur, h1, h2, fun j hj => by rw [h3 j hj, e j hj]⟩
theorem Brow.cell {w : World} {B N : Nat} {x : Nat × Nat} {f : Nat → Bool} (h : Brow w B N x f) (j : Nat) (hj : j < N) : w.cell? ⟨x.1, j, none⟩ = some (.bool (f j)) := by
  obtain ⟨cur, h1, _, h3⟩ := h.ex
  rw [cell_of_row w x.1 j _ _ _ h1]
  exact h3 j hj
theorem Brow.free {w : World} {B N : Nat} {x : Nat × Nat} {f : Nat → Bool} (h : Brow w B N x f) (j : Nat) : w.frozen? ⟨x.1, j, none⟩ = false := by
  obtain ⟨cur, h1, _⟩ := h.ex
  simp [World.frozen?, h1]
theorem Brow.set {w : World} {B N : Nat} {x : Nat × Nat} {f : Nat → Bool} (h : Brow w B N x f) (j : Nat) (hj : j < N) (b : Bool) : Brow (w.setCell ⟨x.1, j, none⟩ (.bool b)) B N x (fun k => if k = j then b else f k) := by
  obtain ⟨cur, h1, h2, h3⟩ := h.ex
  refine ⟨h.big, h.cap, cur.set! j (.bool b), heap_setCell_same w x.1 j _ _ _ h1, by rw [Array.size_set!]; exact h2, fun k hk => ?_⟩
  have hc := h.cap
  by_cases e : k = j
  · subst e
    rw [if_pos rfl]
    simp [Array.set!_eq_setIfInBounds, Array.getElem?_setIfInBounds]
    rw [h2]
    omega
  · rw [if_neg e, ← h3 k hk]
    simp [Array.set!_eq_setIfInBounds, Array.getElem?_setIfInBounds]
    intro e2
    exact absurd e2.symm e
def MtP (w : World) (B : Nat) (v : Value) (n N : Nat) (f : Rl2) : Prop :=
  ∃ r : List (Nat × Nat), r.length = n ∧ w.ownsRow B 66 1 v n (rowVs N r) ∧ (∀ i, i < n → Brow w B N (r.getD i (0, 0)) (f i)) ∧ ∀ i j, i < n → j < n → (r.getD i (0, 0)).1 = (r.getD j (0, 0)).1 → i = j
abbrev Mt2 (w : World) (B : Nat) (v : Value) (N : Nat) (f : Rl2) : Prop := MtP w B v N N f
theorem MtP.congr {w : World} {B : Nat} {v : Value} {n N : Nat} {f g : Rl2} (h : MtP w B v n N f) (e : ∀ i j, i < n → j < N → f i j = g i j) : MtP w B v n N g := by
  obtain ⟨r, h1, h2, h3, h4⟩ := h
  exact ⟨r, h1, h2, fun i hi => (h3 i hi).congr fun j hj => e i j hi hj, h4⟩
theorem rowB_below {w w' : World} {B n : Nat} {v : Value} {cs : List Value} (h : w.ownsRow B 66 1 v n cs) (hb : Below w.heap.size w w') : w'.ownsRow B 66 1 v n cs := by
  refine ⟨h.1, ?_⟩
  rcases h.2 with h0 | ⟨g, cap, cur, hv, hg, hh, r⟩
  · exact .inl h0
  · exact .inr ⟨g, cap, cur, hv, hg, by rw [hb.block g (Array.getElem?_eq_some_iff.1 hh).1]; exact hh, r⟩
theorem MtP.below {w w' : World} {B : Nat} {v : Value} {n N : Nat} {f : Rl2} (h : MtP w B v n N f) (hb : Below w.heap.size w w') : MtP w' B v n N f := by
  obtain ⟨r, h1, h2, h3, h4⟩ := h
  exact ⟨r, h1, rowB_below h2 hb, fun i hi => (h3 i hi).same (hb.block _ (h3 i hi).lt), h4⟩
theorem MtP.base {w : World} {B B' : Nat} {v : Value} {n N : Nat} {f : Rl2} (h : MtP w B v n N f) (hB : B' ≤ B) : MtP w B' v n N f := by
  obtain ⟨r, h1, h2, h3, h4⟩ := h
  refine ⟨r, h1, ⟨h2.1, ?_⟩, fun i hi => ?_, h4⟩
  · rcases h2.2 with h0 | ⟨g, cap, cur, hv, hg, hh, t⟩
    · exact .inl h0
    · exact .inr ⟨g, cap, cur, hv, Nat.le_trans hB hg, hh, t⟩
  · obtain ⟨b1, b2, b3⟩ := h3 i hi
    exact ⟨Nat.le_trans hB b1, b2, b3⟩
theorem MtP.nil (w : World) (B N : Nat) (f : Rl2) (h : B ≤ w.heap.size) : MtP (w.alloc (.cells #[] 66 (0, 0))) B (.slice (some ⟨w.heap.size, 0, none⟩) 0 0) 0 N f :=
  ⟨[], rfl, ⟨rfl, .inr ⟨w.heap.size, 0, #[], rfl, h, heap_alloc_new w _, by omega, by unfold maxLen; omega, rfl, rfl⟩⟩, fun i hi => absurd hi (by omega), fun i _ hi => absurd hi (by omega)⟩
theorem rowVs_get (N : Nat) (r : List (Nat × Nat)) (i : Nat) (h : i < r.length) : (rowVs N r)[i]? = some (rowV N (r.getD i (0, 0))) := by
  unfold rowVs
  rw [List.getElem?_map, List.getD_eq_getElem?_getD, List.getElem?_eq_getElem h]; rfl
structure Mtx (w : World) (A : Option Addr) (n N : Nat) (f : Rl2) : Prop where
  row : ∀ i, i < n → ∃ b rb cap, A = some ⟨b, 0, none⟩ ∧ w.cell? ⟨b, i, none⟩ = some (.slice (some ⟨rb, 0, none⟩) N cap) ∧ ∀ j, j < N → w.cell? ⟨rb, j, none⟩ = some (.bool (f i j))
theorem Mtx.below {w w' : World} {A : Option Addr} {n N : Nat} {f : Rl2} (h : Mtx w A n N f) (hb : Below w.heap.size w w') : Mtx w' A n N f := ⟨fun i hi => by
  obtain ⟨b, rb, cap, e, h1, h2⟩ := h.row i hi
  exact ⟨b, rb, cap, e, by rw [hb.cell (World.block_lt_of_cell? _ _ h1)]; exact h1, fun j hj => by rw [hb.cell (World.block_lt_of_cell? _ _ (h2 j hj))]; exact h2 j hj⟩⟩
theorem MtP.form {w : World} {B : Nat} {v : Value} {n N : Nat} {f : Rl2} (h : MtP w B v n N f) : ∃ A c, v = .slice A n c ∧ Mtx w A n N f := by
  obtain ⟨r, h1, h2, h3, h4⟩ := h
  rcases h2.2 with ⟨rfl, h0⟩ | ⟨g, cap, cur, rfl, hg, hh, _⟩
  · subst h0
    exact ⟨none, 0, rfl, ⟨fun i hi => absurd hi (by omega)⟩⟩
  · refine ⟨_, _, rfl, ⟨fun i hi => ?_⟩⟩
    have := World.ownsRow.cells h2 (g := g) rfl i _ (rowVs_get N r i (by omega))
    rw [add_plain, Nat.zero_add] at this
    exact ⟨g, _, _, rfl, this, fun j hj => (h3 i hi).cell j hj⟩
theorem MtP.at {w : World} {B : Nat} {A : Option Addr} {c n N : Nat} {f : Rl2} (h : MtP w B (.slice A n c) n N f) (i : Nat) (hi : i < n) : ∃ b rb cap, A = some ⟨b, 0, none⟩ ∧ w.cell? ⟨b, i, none⟩ = some (.slice (some ⟨rb, 0, none⟩) N cap) ∧ b < w.heap.size ∧ rb < w.heap.size ∧ B ≤ rb ∧ (∀ j, w.frozen? ⟨rb, j, none⟩ = false) ∧ (∀ j, j < N → w.cell? ⟨rb, j, none⟩ = some (.bool (f i j))) ∧
    ∀ j x, j < N → MtP (w.setCell ⟨rb, j, none⟩ (.bool x)) B (.slice A n c) n N (fun a b => if a = i ∧ b = j then x else f a b) := by
  obtain ⟨r, h1, h2, h3, h4⟩ := h
  have hr := h3 i hi
  rcases h2.2 with ⟨e, h0⟩ | ⟨g, cap, cur, e, hg, hh, t⟩
  · injection e with _ e _; omega
  · injection e with e1 e2 e3
    subst e1
    have hc := World.ownsRow.cells h2 (g := g) rfl i _ (rowVs_get N r i (by omega))
    rw [add_plain, Nat.zero_add] at hc
    have hne : g ≠ (r.getD i (0, 0)).1 := fun e => by
      obtain ⟨cur', k1, _⟩ := hr.ex
      rw [← e, hh] at k1
      injection k1 with k1
      injection k1 with _ k1 _
      exact absurd k1 (by decide)
    refine ⟨g, (r.getD i (0, 0)).1, (r.getD i (0, 0)).2, rfl, hc, (Array.getElem?_eq_some_iff.1 hh).1, hr.lt, hr.big, hr.free, fun j hj => hr.cell j hj, fun j x hj => ⟨r, h1, ⟨h2.1, .inr ⟨g, cap, cur, by rw [← e2, ← e3], hg, ?_, t⟩⟩, fun k hk => ?_, h4⟩⟩
    · rw [heap_setCell_other w ⟨_, j, none⟩ g _ hne]; exact hh
    · by_cases e : k = i
      · subst e
        exact (hr.set j hj x).congr fun m hm => by simp
      · refine ((h3 k hk).same (heap_setCell_other w ⟨_, j, none⟩ _ _ fun e2 => e (h4 k i hk hi e2))).congr fun m hm => ?_
        show f k m = if k = i ∧ m = j then x else f k m
        rw [if_neg (fun c => e c.1)]
end Go.Proofs.YtpnllbojifnopaaGreatDoor
namespace Go.Proofs.YtpnllbojifnopaaGreatDoor
open Go Go.RowKit Go.Maps Pk Rl
set_option maxRecDepth 20000
theorem Brow.made (w : World) (B N : Nat) (h : B ≤ w.heap.size) : Brow (w.alloc (.cells (madeCells #[.bool false] N) 4)) B N (w.heap.size, N) (fun _ => false) :=
  ⟨h, Nat.le_refl _, _, heap_alloc_new w _, by simp [madeCells], fun j hj => by simp [madeCells, Nat.mod_one, hj]⟩
end Go.Proofs.YtpnllbojifnopaaGreatDoor
namespace Go.Proofs.YtpnllbojifnopaaGreatDoor
open Go Go.RowKit Go.Maps Pk Rl
set_option maxRecDepth 20000
end Go.Proofs.YtpnllbojifnopaaGreatDoor
namespace Go.Proofs.YtpnllbojifnopaaGreatDoor
open Go Go.RowKit Go.Maps Pk Rl
set_option maxRecDepth 20000
theorem MtP.drew {w : World} {B : Nat} {v : Value} {n N : Nat} {f : Rl2} (h : MtP w B v n N f) : MtP w.drew B v n N f := h.below (Below.refl _ _).drew
end Go.Proofs.YtpnllbojifnopaaGreatDoor
namespace Go.Proofs.YtpnllbojifnopaaGreatDoor
open Go Go.RowKit Go.Maps Pk Rl
set_option maxRecDepth 20000
end Go.Proofs.YtpnllbojifnopaaGreatDoor
