/- What comes in, told in the walks' words: events by their values' bits. -/
import Derived.Test.YtiddpoihhfphmaaDoorLbLift
import Derived.Test.YtiddpoihhfphmaaDoorLbBits
import Derived.Test.YtiddpoihhfphmaaDoorEvRaw
import Derived.Lib.SmallJoins
import Derived.Deep.Slices
namespace Go.Proofs.YtiddpoihhfphmaaDoor
open Go Go.ChangeShapes Go.WideShapes Go.ChangeAt Go.WideMaps Go.WideElems Go.RowKit Go.Joins
set_option maxRecDepth 20000

theorem raws_of {H : Type} {enc : TypeId × Value → H} {W : World} {base : Nat} {sp : Nat → Bool} {held : Bool} {v : Value} {fuel : Nat} {x : DataW H × List MemPlace}
    (h : DataW.trod enc Tryd.prog W base sp held fuel 25 [v] = some x) :
    ∃ (a : Option Addr) (n c : Nat) (L : List VV), v = .slice a n c ∧ L.length = n ∧ n ≤ maxLen ∧ Raws W a L ∧ (∀ u ∈ L, Okv u) ∧ ∀ u ∈ L, u.2.2.2.size ≤ maxLen := by
  rcases Go.Deep.open_slice Tryd.underlying25 h with ⟨hcs, _⟩ | ⟨a, len, cap, m, n, D, Pl, hcs, _, hl, hm, hmm, _, hx⟩
  · simp only [List.cons.injEq, and_true] at hcs
    subst hcs
    exact ⟨none, 0, 0, [], rfl, rfl, by unfold maxLen; omega, fun i hi => absurd hi (by simp), by simp, by simp⟩
  · simp only [List.cons.injEq, and_true] at hcs
    subst hcs
    have hlm : len ≤ m := by rw [hmm]; split <;> omega
    have c4 : Tryd.prog.cellsOf 54 = 4 := by kernel_rfl
    have each : ∀ i, i < len → ∃ u : VV, (W.cell? (a.add (i * 4)) = some (.int .u8 u.1) ∧ W.cell? (a.add (i * 4 + 1)) = some (.int .i64 u.2.1) ∧ W.cell? (a.add (i * 4 + 2)) = some (.int .u64 (u.2.2.1 : Int)) ∧ W.cell? (a.add (i * 4 + 3)) = some (.string u.2.2.2)) ∧ Okv u ∧ u.2.2.2.size ≤ maxLen := by
      intro i hi
      obtain ⟨cs', h1, h2⟩ := hx i (by omega)
      rw [c4] at h1
      obtain ⟨_, hlen, hcell⟩ := World.cells?_some h1
      obtain ⟨y0, y1, y2, y3, k, _, _, t0, t1, t2, t3⟩ := trod_struct4 Tryd.underlying54 h2
      have k8 : Tryd.prog.cellsOf 5 = 1 := by kernel_rfl
      have ki : Tryd.prog.cellsOf 2 = 1 := by kernel_rfl
      have ku : Tryd.prog.cellsOf 52 = 1 := by kernel_rfl
      have ks : Tryd.prog.cellsOf 9 = 1 := by kernel_rfl
      match cs', hlen with
      | [v0, v1, v2, v3], _ =>
        obtain ⟨a0, e0, _, w0⟩ := DataW.trod_int Tryd.underlying5 t0
        obtain ⟨a1, e1, _, w1⟩ := DataW.trod_int Tryd.underlying2 t1
        obtain ⟨a2, e2, _, w2⟩ := DataW.trod_int Tryd.underlying52 t2
        obtain ⟨s, e3, _, w3⟩ := DataW.trod_string Tryd.underlying9 t3
        simp [k8, ki, ku, ks] at e0 e1 e2 e3
        subst e0 e1 e2 e3
        obtain ⟨b, rfl, hb⟩ := nat_of w2
        obtain ⟨lo, hi'⟩ := bounds_i64 w1
        have b8 := bounds_u8 w0
        have q0 := hcell 0 (by omega)
        have q1 := hcell 1 (by omega)
        have q2 := hcell 2 (by omega)
        have q3 := hcell 3 (by omega)
        rw [Go.Deep.add_add] at q0 q1 q2 q3
        exact ⟨(a0, a1, b, s), ⟨by simpa using q0, by simpa using q1, by simpa using q2, by simpa using q3⟩, ⟨b8.1, by show a0 < 256; omega, lo, hi', hb⟩, w3⟩
    obtain ⟨f, hf⟩ := Go.Deep.choose_lt each
    have hget : ∀ i, i < len → ((List.range len).map f).getD i vz = f i := fun i hi => by
      rw [List.getD_eq_getElem?_getD, List.getElem?_map, List.getElem?_range hi]; rfl
    refine ⟨some a, len, cap, (List.range len).map f, rfl, by simp, by omega, fun i hi => ?_, fun u hu => ?_, fun u hu => ?_⟩
    · rw [List.length_map, List.length_range] at hi
      obtain ⟨b, off, spot⟩ := a
      have hs : spot = none := by
        have := World.cell?_spot (hf 0 (by omega)).1.1
        simpa [Addr.add] using this
      subst hs
      obtain ⟨q0, q1, q2, q3⟩ := (hf i hi).1
      rw [add_plain] at q0 q1 q2 q3
      rw [hget i hi]
      exact ⟨b, off, rfl, q0, by rw [Nat.add_assoc]; exact q1, by rw [Nat.add_assoc]; exact q2, by rw [Nat.add_assoc]; exact q3⟩
    · obtain ⟨i, hi, rfl⟩ := List.mem_map.1 hu
      exact (hf i (List.mem_range.1 hi)).2.1
    · obtain ⟨i, hi, rfl⟩ := List.mem_map.1 hu
      exact (hf i (List.mem_range.1 hi)).2.2

theorem nat32_of {a : Int} (h : (Lit.int .u32 a).wf = true) : ∃ b : Nat, a = (b : Int) ∧ b < 4294967296 := by
  have h1 := bounds_u32 h
  exact ⟨a.toNat, by omega, by omega⟩
theorem eraw_of {H : Type} {enc : TypeId × Value → H} {W : World} {base b0 : Nat} {sp : Nat → Bool} {held : Bool} {r : Reach} {v : Value} {d : DataW H} {p : List MemPlace}
    (hv : Value.okWide Tryd.prog W r b0 27 v) (h : DataW.Trod enc Tryd.prog W base sp held 27 v d p) :
    ∃ (t : Int) (a : Option Addr) (n c : Nat) (L : List VV), v = ev t a n c ∧ (0 ≤ t ∧ t < 256) ∧ L.length = n ∧ n ≤ maxLen ∧ Raws W a L ∧ (∀ u ∈ L, Okv u) ∧ ∀ u ∈ L, u.2.2.2.size ≤ maxLen := by
  obtain ⟨v0, v1, y0, y1, m, rfl, _, _, h0, h1⟩ := open_agg2 Tryd.underlying27 (by kernel_rfl) (by kernel_rfl) hv h
  obtain ⟨a0, e0, _, w0⟩ := DataW.trod_int Tryd.underlying5 h0
  simp only [List.cons.injEq, and_true] at e0
  subst e0
  obtain ⟨a, n, c, L, rfl, h2, h3, h4, h5, h6⟩ := raws_of h1
  have b8 := bounds_u8 w0
  exact ⟨a0, a, n, c, L, rfl, by omega, h2, h3, h4, h5, h6⟩
end Go.Proofs.YtiddpoihhfphmaaDoor
