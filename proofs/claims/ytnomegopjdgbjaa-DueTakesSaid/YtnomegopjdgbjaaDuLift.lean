/- What comes in, told in the walks' words: rows of operations, rows of keys. -/
import Derived.Test.YtnomegopjdgbjaaRows
import Derived.Test.YtnomegopjdgbjaaDuTake
import Derived.ProofKit
import Derived.LaidMore
import Derived.OpenShut
import Derived.Stop.Joined
import Derived.ChangeOld
import Derived.ChangeMaps5
import Derived.Carry
import Derived.Deep.Slices
import Derived.Deep.Strs
namespace Go.Proofs.Ytnomegopjdgbjaa
open Go Go.ChangeShapes Go.WideShapes Go.ChangeAt Go.WideMaps Go.WideElems Go.RowKit
set_option maxRecDepth 20000

theorem own : ownKnob Try.prog.godebug = none := by kernel_rfl
theorem laidOut : laidOutB Try.prog = true := by kernel_rfl
theorem nat_of {a : Int} (h : (Lit.int .u64 a).wf = true) : ∃ b : Nat, a = (b : Int) ∧ b < 18446744073709551616 := by
  have h1 : 0 ≤ a ∧ a ≤ 18446744073709551615 := by simpa [Lit.wf, IntKind.min, IntKind.max, IntKind.signed, IntKind.bits] using h
  exact ⟨a.toNat, by omega, by omega⟩
abbrev OP := Int × Nat × Nat
def oz : OP := (0, 0, 0)
def Oprs (w : World) (A : Option Addr) (O : List OP) : Prop := ∀ i, i < O.length → ∃ b off, A = some ⟨b, off, none⟩ ∧ w.cell? ⟨b, off + i * 3, none⟩ = some (.int .i64 (O.getD i oz).1) ∧
  w.cell? ⟨b, off + i * 3 + 1, none⟩ = some (.int .u64 ((O.getD i oz).2.1 : Int)) ∧ w.cell? ⟨b, off + i * 3 + 2, none⟩ = some (.int .u64 ((O.getD i oz).2.2 : Int))
structure Oko (o : OP) : Prop where
  n0 : -9223372036854775808 ≤ o.1
  n1 : o.1 ≤ 9223372036854775807
  k : o.2.1 < 18446744073709551616
  a : o.2.2 < 18446744073709551616
theorem Oprs.below {w w' : World} {A : Option Addr} {O : List OP} (h : Oprs w A O) (hb : Below w.heap.size w w') : Oprs w' A O := fun i hi => by
  obtain ⟨b, off, e, c0, c1, c2⟩ := h i hi
  exact ⟨b, off, e, (hb.cell (World.block_lt_of_cell? _ _ c0)).trans c0, (hb.cell (World.block_lt_of_cell? _ _ c1)).trans c1, (hb.cell (World.block_lt_of_cell? _ _ c2)).trans c2⟩
theorem kys_of {H : Type} {enc : TypeId × Value → H} {W : World} {base : Nat} {sp : Nat → Bool} {held : Bool} {a : Option Addr} {len cap : Nat} {d : DataW H} {p : List MemPlace}
    (h : DataW.Trod enc Try.prog W base sp held 40 (.slice a len cap) d p) : ∃ l : List Nat, l.length = len ∧ len ≤ maxLen ∧ len ≤ cap ∧ Kys W a l ∧ ∀ k ∈ l, k < 18446744073709551616 := by
  obtain ⟨fuel, hf⟩ := h
  rcases open_ints Try.underlying40 Try.underlying28 (by kernel_rfl) hf with ⟨hcs, _⟩ | ⟨x, n, c, zs, hcs, _, hl, hm, hz, _, hcell, hwz⟩
  · simp [Value.cells] at hcs
    obtain ⟨rfl, rfl, rfl⟩ := hcs
    exact ⟨[], rfl, by unfold maxLen; omega, by omega, fun i hi => absurd hi (by simp), by simp⟩
  · simp [Value.cells] at hcs
    obtain ⟨rfl, rfl, rfl⟩ := hcs
    have hlz : len ≤ zs.length := by rw [hz]; split <;> omega
    have hnat : ∀ c ∈ zs, ((c.toNat : Nat) : Int) = c ∧ c.toNat < 18446744073709551616 := fun c hc => by
      obtain ⟨b, e, hb⟩ := nat_of (hwz c hc)
      subst e
      exact ⟨by simp, by simpa using hb⟩
    refine ⟨(zs.take len).map Int.toNat, by rw [List.length_map, List.length_take]; omega, by omega, hl, fun i hi => ?_, fun c hc => ?_⟩
    · simp only [List.length_map, List.length_take] at hi
      have hc := hcell i (by omega)
      obtain ⟨b, off, spot⟩ := x
      have hs : spot = none := by
        have := World.cell?_spot (hcell 0 (by omega))
        simpa [Addr.add] using this
      subst hs
      refine ⟨b, off, rfl, ?_⟩
      rw [← add_plain, hc]
      have h1 : i < len := by omega
      have h2 : i < zs.length := by omega
      have h3 := (hnat zs[i] (List.getElem_mem _)).1
      simp [h1, List.getElem?_eq_getElem h2, h3]
    · obtain ⟨z, hz', rfl⟩ := List.mem_map.1 hc
      exact (hnat z (List.mem_of_mem_take hz')).2
theorem ops_of {H : Type} {enc : TypeId × Value → H} {W : World} {base : Nat} {sp : Nat → Bool} {held : Bool} {a : Option Addr} {len cap : Nat} {d : DataW H} {p : List MemPlace}
    (h : DataW.Trod enc Try.prog W base sp held 22 (.slice a len cap) d p) : ∃ O : List OP, O.length = len ∧ len ≤ maxLen ∧ len ≤ cap ∧ Oprs W a O ∧ ∀ o ∈ O, Oko o := by
  obtain ⟨fuel, hf⟩ := h
  rcases Go.Deep.open_slice Try.underlying22 hf with ⟨hcs, _⟩ | ⟨a', len', cap', m, n, D, Pl, hcs, _, hl, hm, hmm, _, hx⟩
  · simp [Value.cells] at hcs
    obtain ⟨rfl, rfl, rfl⟩ := hcs
    exact ⟨[], rfl, by unfold maxLen; omega, by omega, fun i hi => absurd hi (by simp), by simp⟩
  · simp [Value.cells] at hcs
    obtain ⟨rfl, rfl, rfl⟩ := hcs
    have hlm : len ≤ m := by rw [hmm]; split <;> omega
    have c4 : Try.prog.cellsOf 30 = 3 := by kernel_rfl
    have each : ∀ i, i < len → ∃ u : OP, (W.cell? (a'.add (i * 3)) = some (.int .i64 u.1) ∧ W.cell? (a'.add (i * 3 + 1)) = some (.int .u64 (u.2.1 : Int)) ∧ W.cell? (a'.add (i * 3 + 2)) = some (.int .u64 (u.2.2 : Int))) ∧ Oko u := by
      intro i hi
      obtain ⟨cs', h1, h2⟩ := hx i (by omega)
      rw [c4] at h1
      obtain ⟨_, hlen, hcell⟩ := World.cells?_some h1
      obtain ⟨y0, y1, y2, k, _, _, t0, t1, t2⟩ := Go.Deep.trod_struct3 Try.underlying30 h2
      have ki : Try.prog.cellsOf 3 = 1 := by kernel_rfl
      have ku : Try.prog.cellsOf 28 = 1 := by kernel_rfl
      match cs', hlen with
      | [v0, v1, v2], _ =>
        obtain ⟨a0, e0, _, w0⟩ := DataW.trod_int Try.underlying3 t0
        obtain ⟨a1, e1, _, w1⟩ := DataW.trod_int Try.underlying28 t1
        obtain ⟨a2, e2, _, w2⟩ := DataW.trod_int Try.underlying28 t2
        simp [ki, ku] at e0 e1 e2
        subst e0 e1 e2
        obtain ⟨b, rfl, hb⟩ := nat_of w1
        obtain ⟨b', rfl, hb'⟩ := nat_of w2
        obtain ⟨lo, hi'⟩ := bounds_i64 w0
        have q0 := hcell 0 (by omega)
        have q1 := hcell 1 (by omega)
        have q2 := hcell 2 (by omega)
        rw [Go.Deep.add_add] at q0 q1 q2
        exact ⟨(a0, b, b'), ⟨by simpa using q0, by simpa using q1, by simpa using q2⟩, ⟨lo, hi', hb, hb'⟩⟩
    obtain ⟨f, hf⟩ := Go.Deep.choose_lt each
    have hget : ∀ i, i < len → ((List.range len).map f).getD i oz = f i := fun i hi => by
      rw [List.getD_eq_getElem?_getD, List.getElem?_map, List.getElem?_range hi]; rfl
    refine ⟨(List.range len).map f, by simp, by omega, by omega, fun i hi => ?_, fun u hu => ?_⟩
    · rw [List.length_map, List.length_range] at hi
      obtain ⟨b, off, spot⟩ := a'
      have hs : spot = none := by
        have := World.cell?_spot (hf 0 (by omega)).1.1
        simpa [Addr.add] using this
      subst hs
      obtain ⟨q0, q1, q2⟩ := (hf i hi).1
      rw [add_plain] at q0 q1 q2
      rw [hget i hi]
      exact ⟨b, off, rfl, q0, by rw [Nat.add_assoc]; exact q1, by rw [Nat.add_assoc]; exact q2⟩
    · obtain ⟨i, hi, rfl⟩ := List.mem_map.1 hu
      exact (hf i (List.mem_range.1 hi)).2
end Go.Proofs.Ytnomegopjdgbjaa
