/- Rows of values of the call's own: what they hold, and appending to them. -/
import Derived.Test.YtnjndlbhnkhlhaaDoorEvVals
import Derived.Deep.RegionLaw
namespace Go.Proofs.YtnjndlbhnkhlhaaDoor
open Go Go.RowKit Pk Rl
set_option maxRecDepth 20000

def OwnV (w : World) (B : Nat) (v : Value) (L : List VV) : Prop := w.ownsRow B 51 4 v L.length (vcls L)
theorem OwnV.nil (w : World) (B : Nat) : OwnV w B (.slice none 0 0) [] := World.ownsRow_nil w B 51 4
theorem OwnV.empty (w : World) : OwnV (w.alloc (.cells #[] 51)) w.heap.size (.slice (some ⟨w.heap.size, 0, none⟩) 0 0) [] :=
  World.ownsRow_made w #[] 0 (Nat.le_refl _) (by decide) rfl
theorem OwnV.form {w : World} {B : Nat} {v : Value} {L : List VV} (h : OwnV w B v L) : ∃ A c, v = .slice A L.length c ∧ Vals w A L := by
  rcases h.2 with ⟨rfl, h0⟩ | ⟨g, cap, cur, rfl, _⟩
  · have : L = [] := List.eq_nil_of_length_eq_zero h0
    subst this
    exact ⟨none, 0, rfl, Vals.nil _ _⟩
  · refine ⟨_, _, rfl, fun i hi => ⟨g, 0, rfl, ?_⟩⟩
    have key : ∀ j u, j < 4 → (vcl (L.getD i vz))[j]? = some u → w.cell? ⟨g, 0 + i * 4 + j, none⟩ = some u := fun j u hj hu => by
      have := World.ownsRow.cells h (g := g) rfl (i * 4 + j) u (by rw [vcls_get L i hi j hj]; exact hu)
      rwa [add_plain, ← Nat.add_assoc] at this
    exact ⟨key 0 _ (by omega) rfl, key 1 _ (by omega) rfl, key 2 _ (by omega) rfl, key 3 _ (by omega) rfl⟩
theorem OwnV.vals {w : World} {B : Nat} {A : Option Addr} {k c : Nat} {L : List VV} (h : OwnV w B (.slice A k c) L) : Vals w A L := by
  obtain ⟨A', c', e, hb⟩ := h.form
  injection e with e1 e2 e3
  subst e1
  exact hb
theorem OwnV.below {w w' : World} {B : Nat} {v : Value} {L : List VV} (h : OwnV w B v L) (hb : Below w.heap.size w w') : OwnV w' B v L := by
  refine ⟨h.1, ?_⟩
  rcases h.2 with h0 | ⟨g, cap, cur, hv, hg, hh, r⟩
  · exact .inl h0
  · refine .inr ⟨g, cap, cur, hv, hg, ?_, r⟩
    rw [hb.block g ?_]
    · exact hh
    · rcases Nat.lt_or_ge g w.heap.size with h1 | h1
      · exact h1
      · rw [Array.getElem?_eq_none h1] at hh; cases hh
theorem OwnV.mono {w : World} {B B' : Nat} {v : Value} {L : List VV} (h : OwnV w B v L) (hB : B' ≤ B) : OwnV w B' v L := by
  refine ⟨h.1, ?_⟩
  rcases h.2 with h0 | ⟨g, cap, cur, hv, hg, r⟩
  · exact .inl h0
  · exact .inr ⟨g, cap, cur, hv, Nat.le_trans hB hg, r⟩
theorem OwnV.capz {w : World} {B : Nat} {A : Option Addr} {k c : Nat} {L : List VV} (h : OwnV w B (.slice A k c) L) (hA : A = none) : c = 0 := by
  rcases h.2 with ⟨h', _⟩ | ⟨g, cap, cur, h', _⟩
  · injection h'
  · injection h' with e1 e2 e3
    rw [hA] at e1
    cases e1
/- a store into a block below the row's -/
theorem OwnV.setCell {w : World} {B : Nat} {v : Value} {L : List VV} (h : OwnV w B v L) (g j : Nat) (hg : g < B) (x : Value) : OwnV (w.setCell ⟨g, j, none⟩ x) B v L := by
  refine ⟨h.1, ?_⟩
  rcases h.2 with h0 | ⟨r, cap, cur, hv, hr, hh, t⟩
  · exact .inl h0
  · refine .inr ⟨r, cap, cur, hv, hr, ?_, t⟩
    rw [heap_setCell_other w ⟨g, j, none⟩ r x (by show r ≠ g; omega)]
    exact hh
theorem infoV : ∃ i, Tryd.prog.info? 51 = some i ∧ i.zero = some (vlOf vz) ∧ i.size = 4 ∧ i.bytes = 40 :=
  ⟨(Tryd.prog.info? 51).get (by kernel_rfl), by kernel_rfl, by kernel_rfl, by kernel_rfl, by kernel_rfl⟩
theorem vcls_one (L : List VV) : ∀ u ∈ vcls L, u.oneCell' = true := by
  intro u hu
  obtain ⟨v, _, h⟩ := List.mem_flatMap.1 hu
  simp only [vcl, List.mem_cons, List.not_mem_nil, or_false] at h
  rcases h with rfl | rfl | rfl | rfl <;> rfl
/- one value in a block of its own -/
theorem Vals.one (w : World) (v : VV) : Vals (w.alloc (.cells #[.int .u8 v.1, .int .i64 v.2.1, .float .f64 v.2.2.1, .string v.2.2.2] 51)) (some ⟨w.heap.size, 0, none⟩) [v] := fun i hi => by
  have : i = 0 := by simpa using hi
  subst this
  refine ⟨w.heap.size, 0, rfl, ?_, ?_, ?_, ?_⟩ <;> simp [go_sem]
end Go.Proofs.YtnjndlbhnkhlhaaDoor
