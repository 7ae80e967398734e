/- Rows of bytes that come in. -/
import Derived.Test.YteiajbeoglmmmaaDoorRcLift
import Derived.Test.YteiajbeoglmmmaaDoorRcH
namespace Go.Proofs.YteiajbeoglmmmaaDoor
open Go Go.ChangeShapes Go.WideShapes Go.ChangeAt Go.WideMaps Go.WideElems Go.RowKit Crc

theorem rows_of {H : Type} {enc : TypeId × Value → H} {W : World} {base : Nat} {sp : Nat → Bool} {held : Bool} {v : Value} {fuel : Nat} {x : DataW H × List MemPlace}
    (h : DataW.trod enc Tryd.prog W base sp held fuel 35 [v] = some x) :
    ∃ (a : Option Addr) (n c : Nat) (L : List (List Int)), v = .slice a n c ∧ L.length = n ∧ n ≤ c ∧ Rws W a L ∧ ∀ l ∈ L, Rng l := by
  rcases Go.Deep.open_slice Tryd.underlying35 h with ⟨hcs, _⟩ | ⟨a, len, cap, m, n, D, Pl, hcs, _, hl, hm, hmm, _, hx⟩
  · simp only [List.cons.injEq, and_true] at hcs
    subst hcs
    exact ⟨none, 0, 0, [], rfl, rfl, Nat.le_refl _, fun i hi => absurd hi (by simp), by simp⟩
  · simp only [List.cons.injEq, and_true] at hcs
    subst hcs
    have hlm : len ≤ m := by rw [hmm]; split <;> omega
    have c1 : Tryd.prog.cellsOf 22 = 1 := by kernel_rfl
    have each : ∀ i, i < len → ∃ u : (Option Addr × Nat × List Int), W.cell? (a.add i) = some (.slice u.1 u.2.2.length u.2.1) ∧ Byt W u.1 u.2.2 := by
      intro i hi
      obtain ⟨cs', h1, h2⟩ := hx i (by omega)
      rw [c1] at h1
      obtain ⟨_, hlen, hcell⟩ := World.cells?_some h1
      match cs', hlen with
      | [v0], _ =>
        have q0 := hcell 0 (by omega)
        rw [Go.Deep.add_add] at q0
        have hv : ∃ A n C, v0 = .slice A n C := by
          rcases open_ints Tryd.underlying22 Tryd.underlying5 (by kernel_rfl) h2 with ⟨hcs, _⟩ | ⟨x, n, c, zs, hcs, _⟩
          · simp only [List.cons.injEq, and_true] at hcs
            exact ⟨_, _, _, hcs⟩
          · simp only [List.cons.injEq, and_true] at hcs
            exact ⟨_, _, _, hcs⟩
        obtain ⟨A, k, C, rfl⟩ := hv
        obtain ⟨l, hl, _, _, _, hb⟩ := byt_of (a := A) (len := k) (cap := C) ⟨_, h2⟩
        refine ⟨(A, C, l), ?_, hb⟩
        show W.cell? (a.add i) = some (.slice A l.length C)
        rw [hl]
        simpa using q0
    obtain ⟨f, hf⟩ := Go.Deep.choose_lt each
    have hget : ∀ i, i < len → g0 ((List.range len).map fun i => (f i).2.2) i = (f i).2.2 := fun i hi => by
      rw [g0, List.getD_eq_getElem?_getD, List.getElem?_map, List.getElem?_range hi]; rfl
    refine ⟨some a, len, cap, (List.range len).map fun i => (f i).2.2, rfl, by simp, hl, fun i hi => ?_, fun u hu => ?_⟩
    · rw [List.length_map, List.length_range] at hi
      obtain ⟨b, off, spot⟩ := a
      have hs : spot = none := by
        have := World.cell?_spot (hf 0 (by omega)).1
        simpa [Addr.add] using this
      subst hs
      obtain ⟨q0, q1⟩ := hf i hi
      rw [add_plain] at q0
      rw [hget i hi]
      exact ⟨b, off, (f i).1, (f i).2.1, rfl, q0, q1⟩
    · obtain ⟨i, hi, rfl⟩ := List.mem_map.1 hu
      exact (hf i (List.mem_range.1 hi)).2.2
end Go.Proofs.YteiajbeoglmmmaaDoor
