/- What comes in, told in the walks' words: states. -/
import Derived.Test.YtmooblbnkjaenaaLbLift
import Derived.Test.YtmooblbnkjaenaaLbBits
import Derived.Test.YtmooblbnkjaenaaSnB
import Derived.Lib.SmallJoins
import Derived.Deep.Slices
import Derived.Deep.Strs
namespace Go.Proofs.Ytmooblbnkjaenaa
open Go Go.ChangeShapes Go.WideShapes Go.ChangeAt Go.WideMaps Go.WideElems Go.RowKit Go.Joins
set_option maxRecDepth 20000

instance : Inhabited Ru := ⟨rz⟩
theorem list5 {l : List Value} (h : l.length = 5) : ∃ v0 v1 v2 v3 v4, l = [v0, v1, v2, v3, v4] := by
  match l, h with
  | [v0, v1, v2, v3, v4], _ => exact ⟨v0, v1, v2, v3, v4, rfl⟩
theorem trod_struct5 {H : Type} {enc : TypeId × Value → H} {P : Program} {w : World} {base : Nat} {spare : Nat → Bool} {held : Bool} {t : TypeId} {f0 f1 f2 f3 f4 : Field} {fuel : Nat} {cs : List Value} {x : DataW H × List MemPlace} (ht : P.underlying t = some (.struct #[f0, f1, f2, f3, f4])) (h : DataW.trod enc P w base spare held fuel t cs = some x) :
    ∃ y0 y1 y2 y3 y4 n, cs.length = P.cellsOf t ∧ DataW.trod enc P w base spare held n f0.type ((cs.drop f0.offset).take (P.cellsOf f0.type)) = some y0 ∧
      DataW.trod enc P w base spare held n f1.type ((cs.drop f1.offset).take (P.cellsOf f1.type)) = some y1 ∧ DataW.trod enc P w base spare held n f2.type ((cs.drop f2.offset).take (P.cellsOf f2.type)) = some y2 ∧
      DataW.trod enc P w base spare held n f3.type ((cs.drop f3.offset).take (P.cellsOf f3.type)) = some y3 ∧ DataW.trod enc P w base spare held n f4.type ((cs.drop f4.offset).take (P.cellsOf f4.type)) = some y4 := by
  obtain ⟨xs, n, _, rfl, hl, hlen, hf⟩ := DataW.trod_struct ht h
  match xs, hlen with
  | [y0, y1, y2, y3, y4], _ => exact ⟨y0, y1, y2, y3, y4, n, hl, by simpa using hf 0 f0 rfl, by simpa using hf 1 f1 rfl, by simpa using hf 2 f2 rfl, by simpa using hf 3 f3 rfl, by simpa using hf 4 f4 rfl⟩
theorem runs_of {H : Type} {enc : TypeId × Value → H} {W : World} {base : Nat} {sp : Nat → Bool} {held : Bool} {v : Value} {fuel : Nat} {x : DataW H × List MemPlace}
    (h : DataW.trod enc Try.prog W base sp held fuel 23 [v] = some x) :
    ∃ (a : Option Addr) (n c : Nat) (L : List Ru), v = .slice a n c ∧ L.length = n ∧ n ≤ maxLen ∧ Rus W a L ∧ (∀ u ∈ L, Okr u) := by
  rcases Go.Deep.open_slice Try.underlying23 h with ⟨hcs, _⟩ | ⟨a, len, cap, m, n, D, Pl, hcs, _, hl, hm, hmm, _, hx⟩
  · simp only [List.cons.injEq, and_true] at hcs
    subst hcs
    exact ⟨none, 0, 0, [], rfl, rfl, by unfold maxLen; omega, fun i hi => absurd hi (by simp), by simp⟩
  · simp only [List.cons.injEq, and_true] at hcs
    subst hcs
    have hlm : len ≤ m := by rw [hmm]; split <;> omega
    have c4 : Try.prog.cellsOf 43 = 3 := by kernel_rfl
    have each : ∀ i, i < len → ∃ u : Ru, (W.cell? (a.add (i * 3)) = some (.int .u64 (u.s : Int)) ∧ W.cell? (a.add (i * 3 + 1)) = some (.int .u64 (u.t : Int)) ∧ W.cell? (a.add (i * 3 + 2)) = some (.int .u64 (u.x : Int))) ∧ Okr u := by
      intro i hi
      obtain ⟨cs', h1, h2⟩ := hx i (by omega)
      rw [c4] at h1
      obtain ⟨_, hlen, hcell⟩ := World.cells?_some h1
      obtain ⟨y0, y1, y2, k, _, _, t0, t1, t2⟩ := Go.Deep.trod_struct3 Try.underlying43 h2
      have ku : Try.prog.cellsOf 22 = 1 := by kernel_rfl
      match cs', hlen with
      | [v0, v1, v2], _ =>
        obtain ⟨a0, e0, _, w0⟩ := DataW.trod_int Try.underlying22 t0
        obtain ⟨a1, e1, _, w1⟩ := DataW.trod_int Try.underlying22 t1
        obtain ⟨a2, e2, _, w2⟩ := DataW.trod_int Try.underlying22 t2
        simp [ku] at e0 e1 e2
        subst e0 e1 e2
        obtain ⟨b0, rfl, hb0⟩ := nat_of w0
        obtain ⟨b1, rfl, hb1⟩ := nat_of w1
        obtain ⟨b2, rfl, hb2⟩ := nat_of w2
        have q0 := hcell 0 (by omega)
        have q1 := hcell 1 (by omega)
        have q2 := hcell 2 (by omega)
        rw [Go.Deep.add_add] at q0 q1 q2
        exact ⟨⟨b0, b1, b2⟩, ⟨by simpa using q0, by simpa using q1, by simpa using q2⟩, ⟨hb0, hb1, hb2⟩⟩
    obtain ⟨f, hf⟩ := Go.Deep.choose_lt each
    have hget : ∀ i, i < len → ((List.range len).map f).getD i rz = f i := fun i hi => by
      rw [List.getD_eq_getElem?_getD, List.getElem?_map, List.getElem?_range hi]; rfl
    refine ⟨some a, len, cap, (List.range len).map f, rfl, by simp, by omega, fun i hi => ?_, fun u hu => ?_⟩
    · rw [List.length_map, List.length_range] at hi
      obtain ⟨b, off, spot⟩ := a
      have hs : spot = none := by
        have := World.cell?_spot (hf 0 (by omega)).1.1
        simpa [Addr.add] using this
      subst hs
      obtain ⟨q0, q1, q2⟩ := (hf i hi).1
      rw [add_plain] at q0 q1 q2
      rw [hget i hi]
      exact ⟨b, off, rfl, q0, by rw [Nat.add_assoc]; exact q1, by rw [Nat.add_assoc]; exact q2⟩
    · obtain ⟨i, hi, rfl⟩ := List.mem_map.1 hu
      exact (hf i (List.mem_range.1 hi)).2
theorem sto_of {H : Type} {enc : TypeId × Value → H} {W : World} {base b0 : Nat} {sp : Nat → Bool} {held : Bool} {r : Reach} {v : Value} {d : DataW H} {p : List MemPlace}
    (hv : Value.okWide Try.prog W r b0 25 v) (h : DataW.Trod enc Try.prog W base sp held 25 v d p) :
    ∃ (next last : Nat) (fl : Bool) (fat : Nat) (a : Option Addr) (n c : Nat) (L : List Ru), v = stv next last fl fat a n c ∧ next < 18446744073709551616 ∧ last < 18446744073709551616 ∧ fat < 18446744073709551616 ∧ L.length = n ∧ n ≤ maxLen ∧ Rus W a L ∧ (∀ u ∈ L, Okr u) := by
  obtain ⟨cs, rfl, hsz⟩ := okWide_struct Try.underlying25 hv
  obtain ⟨fuel, hf⟩ := h
  obtain ⟨l⟩ := cs
  have hl : l.length = 5 := hsz.trans (by kernel_rfl)
  obtain ⟨v0, v1, v2, v3, v4, rfl⟩ := list5 hl
  obtain ⟨y0, y1, y2, y3, y4, k, _, t0, t1, t2, t3, t4⟩ := trod_struct5 Try.underlying25 hf
  have ku : Try.prog.cellsOf 22 = 1 := by kernel_rfl
  have kb : Try.prog.cellsOf 4 = 1 := by kernel_rfl
  have ks : Try.prog.cellsOf 23 = 1 := by kernel_rfl
  obtain ⟨a0, e0, _, w0⟩ := DataW.trod_int Try.underlying22 t0
  obtain ⟨a1, e1, _, w1⟩ := DataW.trod_int Try.underlying22 t1
  obtain ⟨a2, e2, _⟩ := DataW.trod_bool Try.underlying4 t2
  obtain ⟨a3, e3, _, w3⟩ := DataW.trod_int Try.underlying22 t3
  simp [Value.cells, ku, kb] at e0 e1 e2 e3
  subst e0 e1 e2 e3
  obtain ⟨b0, rfl, hb0⟩ := nat_of w0
  obtain ⟨b1, rfl, hb1⟩ := nat_of w1
  obtain ⟨b3, rfl, hb3⟩ := nat_of w3
  simp only [Value.cells, ks, List.drop_succ_cons, List.drop_zero, List.take_succ_cons, List.take_zero] at t4
  obtain ⟨a, n, c, L, rfl, h2, h3, h4, h5⟩ := runs_of t4
  exact ⟨b0, b1, a2, b3, a, n, c, L, rfl, hb0, hb1, hb3, h2, h3, h4, h5⟩
end Go.Proofs.Ytmooblbnkjaenaa
