/- What comes in, told in the walks' words: rows of events, each with the time behind the one ahead. -/
import Derived.Test.YtpnllbojifnopaaGreatDoorTrV
import Derived.Test.YtpnllbojifnopaaGreatDoorMV
import Derived.Test.YtpnllbojifnopaaGreatDoorYMS
namespace Go.Proofs.YtpnllbojifnopaaGreatDoor
open Go Go.ChangeShapes Go.WideShapes Go.ChangeAt Go.WideMaps Go.WideElems Go.RowKit Go.Joins
set_option maxRecDepth 20000
theorem hrow_of {H : Type} {enc : TypeId × Value → H} {W : World} {base : Nat} {sp : Nat → Bool} {held : Bool} {a : Option Addr} {len cap : Nat} {d : DataW H} {p : List MemPlace}
    (h : DataW.Trod enc Tryz.prog W base sp held 51 (.slice a len cap) d p) :
    ∃ L : List Hp, L.length = len ∧ len ≤ maxLen ∧ Hps W a L := by
  obtain ⟨fuel, h⟩ := h
  rcases Go.Deep.open_slice Tryz.underlying51 h with ⟨hcs, _⟩ | ⟨a', len', cap', m, n, D, Pl, hcs, _, hl, hm, hmm, _, hx⟩
  · simp [Value.cells] at hcs
    obtain ⟨rfl, rfl, rfl⟩ := hcs
    exact ⟨[], rfl, by unfold maxLen; omega, ⟨fun i hi => absurd hi (by simp), by simp⟩⟩
  · simp [Value.cells] at hcs
    obtain ⟨rfl, rfl, rfl⟩ := hcs
    have hlm : len ≤ m := by rw [hmm]; split <;> omega
    have c3 : Tryz.prog.cellsOf 140 = 3 := by kernel_rfl
    have c2 : Tryz.prog.cellsOf 138 = 2 := by kernel_rfl
    have k8 : Tryz.prog.cellsOf 5 = 1 := by kernel_rfl
    have k32 : Tryz.prog.cellsOf 33 = 1 := by kernel_rfl
    have ks : Tryz.prog.cellsOf 136 = 1 := by kernel_rfl
    have each : ∀ i, i < len → ∃ u : Hp, (W.cell? (a'.add (i * 3)) = some (.int .u32 (u.af : Int)) ∧ W.cell? (a'.add (i * 3 + 1)) = some (.int .u8 u.t) ∧ W.cell? (a'.add (i * 3 + 2)) = some (.slice u.a u.n u.c)) ∧ Hok W u := by
      intro i hi
      obtain ⟨cs', h1, h2⟩ := hx i (by omega)
      rw [c3] at h1
      obtain ⟨_, hlen, hcell⟩ := World.cells?_some h1
      obtain ⟨y0, y1, k, _, _, t0, t1⟩ := trod_struct2 Tryz.underlying140 h2
      match cs', hlen with
      | [v0, v1, v2], _ =>
        obtain ⟨a0, e0, _, w0⟩ := DataW.trod_int Tryz.underlying33 t0
        simp [k32] at e0
        subst e0
        simp only [c2, List.drop_succ_cons, List.drop_zero, List.take_succ_cons, List.take_zero] at t1
        obtain ⟨z0, z1, k', _, _, s0, s1⟩ := trod_struct2 Tryz.underlying138 t1
        obtain ⟨b0, d0, _, q0⟩ := DataW.trod_int Tryz.underlying5 s0
        simp [k8] at d0
        subst d0
        simp only [ks, List.drop_succ_cons, List.drop_zero, List.take_succ_cons, List.take_zero] at s1
        obtain ⟨x, n1, c1, L, rfl, g2, g3, g4, g5, g6⟩ := raws_of s1
        obtain ⟨b, rfl, hb⟩ := nat32_of w0
        have r0 := hcell 0 (by omega)
        have r1 := hcell 1 (by omega)
        have r2 := hcell 2 (by omega)
        rw [Go.Deep.add_add] at r0 r1 r2
        exact ⟨⟨b, b0, x, n1, c1, L⟩, ⟨by simpa using r0, by simpa using r1, by simpa using r2⟩, ⟨g2, g3, g4, g5, g6, hb⟩⟩
    haveI : Inhabited Hp := ⟨hz⟩
    obtain ⟨f, hf⟩ := Go.Deep.choose_lt each
    have hget : ∀ i, i < len → ((List.range len).map f).getD i hz = f i := fun i hi => by
      rw [List.getD_eq_getElem?_getD, List.getElem?_map, List.getElem?_range hi]; rfl
    refine ⟨(List.range len).map f, by simp, by omega, ⟨fun i hi => ?_, fun u hu => ?_⟩⟩
    · rw [List.length_map, List.length_range] at hi
      obtain ⟨b, off, spot⟩ := a'
      have hs : spot = none := by
        have := World.cell?_spot (hf 0 (by omega)).1.1
        simpa [Addr.add] using this
      subst hs
      obtain ⟨q0, q1, q2⟩ := (hf i hi).1
      rw [add_plain] at q0 q1 q2
      rw [hget i hi]
      exact ⟨b, off, rfl, q0, by rw [Nat.add_assoc]; exact q1, by rw [Nat.add_assoc]; exact q2⟩
    · obtain ⟨i, hi, rfl⟩ := List.mem_map.1 hu
      exact (hf i (List.mem_range.1 hi)).2
end Go.Proofs.YtpnllbojifnopaaGreatDoor
