/- What comes in, told in the walks' words: patterns by their questions' values' bits. -/
import Derived.Test.YtpnllbojifnopaaGreatDoorMY
import Derived.Test.YtpnllbojifnopaaGreatDoorMV
namespace Go.Proofs.YtpnllbojifnopaaGreatDoor
open Go Go.ChangeShapes Go.WideShapes Go.ChangeAt Go.WideMaps Go.WideElems Go.RowKit Go.Joins
set_option maxRecDepth 20000

theorem list11 {l : List Value} (h : l.length = 11) : ∃ v0 v1 v2 v3 v4 v5 v6 v7 v8 v9 v10, l = [v0, v1, v2, v3, v4, v5, v6, v7, v8, v9, v10] := by
  match l, h with
  | [v0, v1, v2, v3, v4, v5, v6, v7, v8, v9, v10], _ => exact ⟨v0, v1, v2, v3, v4, v5, v6, v7, v8, v9, v10, rfl⟩
theorem trod_struct7 {H : Type} {enc : TypeId × Value → H} {P : Program} {w : World} {base : Nat} {spare : Nat → Bool} {held : Bool} {t : TypeId} {f0 f1 f2 f3 f4 f5 f6 : Field} {fuel : Nat} {cs : List Value} {x : DataW H × List MemPlace} (ht : P.underlying t = some (.struct #[f0, f1, f2, f3, f4, f5, f6])) (h : DataW.trod enc P w base spare held fuel t cs = some x) :
    ∃ y0 y1 y2 y3 y4 y5 y6 n, cs.length = P.cellsOf t ∧ DataW.trod enc P w base spare held n f0.type ((cs.drop f0.offset).take (P.cellsOf f0.type)) = some y0 ∧
      DataW.trod enc P w base spare held n f1.type ((cs.drop f1.offset).take (P.cellsOf f1.type)) = some y1 ∧ DataW.trod enc P w base spare held n f2.type ((cs.drop f2.offset).take (P.cellsOf f2.type)) = some y2 ∧
      DataW.trod enc P w base spare held n f3.type ((cs.drop f3.offset).take (P.cellsOf f3.type)) = some y3 ∧ DataW.trod enc P w base spare held n f4.type ((cs.drop f4.offset).take (P.cellsOf f4.type)) = some y4 ∧
      DataW.trod enc P w base spare held n f5.type ((cs.drop f5.offset).take (P.cellsOf f5.type)) = some y5 ∧ DataW.trod enc P w base spare held n f6.type ((cs.drop f6.offset).take (P.cellsOf f6.type)) = some y6 := by
  obtain ⟨xs, n, _, rfl, hl, hlen, hf⟩ := DataW.trod_struct ht h
  match xs, hlen with
  | [y0, y1, y2, y3, y4, y5, y6], _ => exact ⟨y0, y1, y2, y3, y4, y5, y6, n, hl, by simpa using hf 0 f0 rfl, by simpa using hf 1 f1 rfl, by simpa using hf 2 f2 rfl, by simpa using hf 3 f3 rfl, by simpa using hf 4 f4 rfl, by simpa using hf 5 f5 rfl, by simpa using hf 6 f6 rfl⟩
theorem qraw_of {H : Type} {enc : TypeId × Value → H} {W : World} {base : Nat} {sp : Nat → Bool} {held : Bool} {v0 v1 v2 : Value} {fuel : Nat} {x : DataW H × List MemPlace}
    (h : DataW.trod enc Tryz.prog W base sp held fuel 111 [v0, v1, v2] = some x) :
    ∃ q : Qu, v0 = .bool q.x ∧ v1 = .int .u8 q.t ∧ v2 = .slice q.a q.n q.c ∧ RQ W q ∧ (∀ u ∈ q.L, u.2.2.2.2.2.size ≤ maxLen) ∧ (0 ≤ q.t ∧ q.t < 256) := by
  obtain ⟨y0, y1, y2, k, _, _, t0, t1, t2⟩ := Go.Deep.trod_struct3 Tryz.underlying111 h
  have k8 : Tryz.prog.cellsOf 5 = 1 := by kernel_rfl
  have kb : Tryz.prog.cellsOf 4 = 1 := by kernel_rfl
  have ks : Tryz.prog.cellsOf 109 = 1 := by kernel_rfl
  obtain ⟨b0, e0, _⟩ := DataW.trod_bool Tryz.underlying4 t0
  obtain ⟨a1, e1, _, w1⟩ := DataW.trod_int Tryz.underlying5 t1
  simp [k8, kb] at e0 e1
  subst e0 e1
  simp only [ks, List.drop_succ_cons, List.drop_zero, List.take_succ_cons, List.take_zero] at t2
  obtain ⟨a, n, c, L, rfl, g2, g3, g4, g5, g6⟩ := traws_of t2
  have gb := bounds_u8 w1
  exact ⟨⟨b0, a1, a, n, c, L⟩, rfl, rfl, rfl, ⟨g2, g3, g4, g5⟩, g6, gb.1, by show a1 < 256; omega⟩
/- topics are bytes -/
def Tp1 (u : Nd) : Prop := (0 ≤ u.p.t ∧ u.p.t < 256) ∧ (0 ≤ u.g.t ∧ u.g.t < 256)
theorem nraws_of {H : Type} {enc : TypeId × Value → H} {W : World} {base : Nat} {sp : Nat → Bool} {held : Bool} {v : Value} {fuel : Nat} {x : DataW H × List MemPlace}
    (h : DataW.trod enc Tryz.prog W base sp held fuel 22 [v] = some x) :
    ∃ (a : Option Addr) (n c : Nat) (L : List Nd), v = .slice a n c ∧ L.length = n ∧ n ≤ maxLen ∧ RN W a L ∧ (∀ u ∈ L, Sm u) ∧ ∀ u ∈ L, Tp1 u := by
  rcases Go.Deep.open_slice Tryz.underlying22 h with ⟨hcs, _⟩ | ⟨a, len, cap, m, n, D, Pl, hcs, _, hl, hm, hmm, _, hx⟩
  · simp only [List.cons.injEq, and_true] at hcs
    subst hcs
    exact ⟨none, 0, 0, [], rfl, rfl, by unfold maxLen; omega, ⟨Nds.nil _ _, by simp⟩, by simp, by simp⟩
  · simp only [List.cons.injEq, and_true] at hcs
    subst hcs
    have hlm : len ≤ m := by rw [hmm]; split <;> omega
    have c11 : Tryz.prog.cellsOf 113 = 11 := by kernel_rfl
    have c3 : Tryz.prog.cellsOf 111 = 3 := by kernel_rfl
    have k8 : Tryz.prog.cellsOf 5 = 1 := by kernel_rfl
    have ki : Tryz.prog.cellsOf 3 = 1 := by kernel_rfl
    have kb : Tryz.prog.cellsOf 4 = 1 := by kernel_rfl
    have each : ∀ i, i < len → ∃ u : Nd, (W.cell? (a.add (i * 11)) = some (.int .u8 u.k) ∧ W.cell? (a.add (i * 11 + 1)) = some (.bool u.p.x) ∧ W.cell? (a.add (i * 11 + 2)) = some (.int .u8 u.p.t) ∧ W.cell? (a.add (i * 11 + 3)) = some (.slice u.p.a u.p.n u.p.c) ∧ W.cell? (a.add (i * 11 + 4)) = some (.bool u.y) ∧ W.cell? (a.add (i * 11 + 5)) = some (.bool u.g.x) ∧ W.cell? (a.add (i * 11 + 6)) = some (.int .u8 u.g.t) ∧ W.cell? (a.add (i * 11 + 7)) = some (.slice u.g.a u.g.n u.g.c) ∧ W.cell? (a.add (i * 11 + 8)) = some (.int .u8 u.lo) ∧ W.cell? (a.add (i * 11 + 9)) = some (.int .u8 u.hi) ∧ W.cell? (a.add (i * 11 + 10)) = some (.int .i64 u.s)) ∧ (RQ W u.p ∧ RQ W u.g ∧ Rg u) ∧ Sm u ∧ Tp1 u := by
      intro i hi
      obtain ⟨cs', h1, h2⟩ := hx i (by omega)
      rw [c11] at h1
      obtain ⟨_, hlen, hcell⟩ := World.cells?_some h1
      obtain ⟨y0, y1, y2, y3, y4, y5, y6, k, _, t0, t1, t2, t3, t4, t5, t6⟩ := trod_struct7 Tryz.underlying113 h2
      obtain ⟨v0, v1, v2, v3, v4, v5, v6, v7, v8, v9, v10, rfl⟩ := list11 hlen
      obtain ⟨a0, e0, _, w0⟩ := DataW.trod_int Tryz.underlying5 t0
      obtain ⟨a2, e2, _⟩ := DataW.trod_bool Tryz.underlying4 t2
      obtain ⟨a4, e4, _, w4⟩ := DataW.trod_int Tryz.underlying5 t4
      obtain ⟨a5, e5, _, w5⟩ := DataW.trod_int Tryz.underlying5 t5
      obtain ⟨a6, e6, _, w6⟩ := DataW.trod_int Tryz.underlying3 t6
      simp [k8, ki, kb] at e0 e2 e4 e5 e6
      subst e0 e2 e4 e5 e6
      simp only [c3, List.drop_succ_cons, List.drop_zero, List.take_succ_cons, List.take_zero] at t1 t3
      obtain ⟨p, rfl, rfl, rfl, hp, hps, hpt⟩ := qraw_of t1
      obtain ⟨g, rfl, rfl, rfl, hg, hgs, hgt⟩ := qraw_of t3
      obtain ⟨lo, hi'⟩ := bounds_i64 w6
      have g0 := bounds_u8 w0
      have g4 := bounds_u8 w4
      have g5 := bounds_u8 w5
      have r0 := hcell 0 (by omega)
      have r1 := hcell 1 (by omega)
      have r2 := hcell 2 (by omega)
      have r3 := hcell 3 (by omega)
      have r4 := hcell 4 (by omega)
      have r5 := hcell 5 (by omega)
      have r6 := hcell 6 (by omega)
      have r7 := hcell 7 (by omega)
      have r8 := hcell 8 (by omega)
      have r9 := hcell 9 (by omega)
      have r10 := hcell 10 (by omega)
      rw [Go.Deep.add_add] at r0 r1 r2 r3 r4 r5 r6 r7 r8 r9 r10
      exact ⟨⟨a0, p, a2, g, a4, a5, a6⟩, ⟨by simpa using r0, by simpa using r1, by simpa using r2, by simpa using r3, by simpa using r4, by simpa using r5, by simpa using r6, by simpa using r7, by simpa using r8, by simpa using r9, by simpa using r10⟩,
        ⟨hp, hg, ⟨g0.1, by show a0 < 256; omega, g4.1, by show a4 < 256; omega, g5.1, by show a5 < 256; omega, lo, hi'⟩⟩, ⟨hps, hgs⟩, hpt, hgt⟩
    haveI : Inhabited Nd := ⟨nz⟩
    obtain ⟨f, hf⟩ := Go.Deep.choose_lt each
    have hget : ∀ i, i < len → ((List.range len).map f).getD i nz = f i := fun i hi => by
      rw [List.getD_eq_getElem?_getD, List.getElem?_map, List.getElem?_range hi]; rfl
    refine ⟨some a, len, cap, (List.range len).map f, rfl, by simp, by omega, ⟨fun i hi => ?_, fun u hu => ?_⟩, fun u hu => ?_, fun u hu => ?_⟩
    · rw [List.length_map, List.length_range] at hi
      obtain ⟨b, off, spot⟩ := a
      have hs : spot = none := by
        have := World.cell?_spot (hf 0 (by omega)).1.1
        simpa [Addr.add] using this
      subst hs
      obtain ⟨q0, q1, q2, q3, q4, q5, q6, q7, q8, q9, q10⟩ := (hf i hi).1
      rw [add_plain] at q0 q1 q2 q3 q4 q5 q6 q7 q8 q9 q10
      rw [hget i hi]
      exact ⟨b, off, rfl, q0, by rw [Nat.add_assoc]; exact q1, by rw [Nat.add_assoc]; exact q2, by rw [Nat.add_assoc]; exact q3, by rw [Nat.add_assoc]; exact q4, by rw [Nat.add_assoc]; exact q5, by rw [Nat.add_assoc]; exact q6, by rw [Nat.add_assoc]; exact q7, by rw [Nat.add_assoc]; exact q8, by rw [Nat.add_assoc]; exact q9, by rw [Nat.add_assoc]; exact q10⟩
    · obtain ⟨i, hi, rfl⟩ := List.mem_map.1 hu
      exact (hf i (List.mem_range.1 hi)).2.1
    · obtain ⟨i, hi, rfl⟩ := List.mem_map.1 hu
      exact (hf i (List.mem_range.1 hi)).2.2.1
    · obtain ⟨i, hi, rfl⟩ := List.mem_map.1 hu
      exact (hf i (List.mem_range.1 hi)).2.2.2
theorem traw_of2 {H : Type} {enc : TypeId × Value → H} {W : World} {base b0 : Nat} {sp : Nat → Bool} {held : Bool} {r : Reach} {v : Value} {d : DataW H} {p : List MemPlace}
    (hv : Value.okWide Tryz.prog W r b0 25 v) (h : DataW.Trod enc Tryz.prog W base sp held 25 v d p) :
    ∃ (a : Option Addr) (n c : Nat) (L : List Nd) (win : Int), v = ptv a n c win ∧ L.length = n ∧ n ≤ maxLen ∧ RN W a L ∧ (∀ u ∈ L, Sm u) ∧ (∀ u ∈ L, Tp1 u) ∧ 0 ≤ win ∧ win < 18446744073709551616 := by
  obtain ⟨v0, v1, y0, y1, m, rfl, _, _, h0, h1⟩ := open_agg2 Tryz.underlying25 (by kernel_rfl) (by kernel_rfl) hv h
  obtain ⟨a1, e1, _, w1⟩ := DataW.trod_int Tryz.underlying23 h1
  simp only [List.cons.injEq, and_true] at e1
  subst e1
  obtain ⟨a, n, c, L, rfl, g2, g3, g4, g5, g6⟩ := nraws_of h0
  obtain ⟨b, rfl, hb⟩ := nat_of w1
  exact ⟨a, n, c, L, b, rfl, g2, g3, g4, g5, g6, by omega, by omega⟩

theorem traw_of {H : Type} {enc : TypeId × Value → H} {W : World} {base b0 : Nat} {sp : Nat → Bool} {held : Bool} {r : Reach} {v : Value} {d : DataW H} {p : List MemPlace}
    (hv : Value.okWide Tryz.prog W r b0 25 v) (h : DataW.Trod enc Tryz.prog W base sp held 25 v d p) :
    ∃ (a : Option Addr) (n c : Nat) (L : List Nd) (win : Int), v = ptv a n c win ∧ L.length = n ∧ n ≤ maxLen ∧ RN W a L ∧ (∀ u ∈ L, Sm u) ∧ 0 ≤ win ∧ win < 18446744073709551616 := by
  obtain ⟨a, n, c, L, win, h1, h2, h3, h4, h5, _, h6⟩ := traw_of2 hv h
  exact ⟨a, n, c, L, win, h1, h2, h3, h4, h5, h6⟩
end Go.Proofs.YtpnllbojifnopaaGreatDoor
