/- What comes in, told in the walks' words: operations, whole numbers. -/
import Derived.Test.YtahjodpaikhhmaaRows
import Derived.Test.YtahjodpaikhhmaaDkOps
import Derived.ProofKit
import Derived.LaidMore
import Derived.OpenShut
import Derived.Stop.Joined
import Derived.ChangeOld
import Derived.ChangeMaps5
import Derived.Carry
import Derived.SizedLaws
import Derived.Deep.Slices
import Derived.Deep.Strs
import Derived.Lib.SmallJoins
namespace Go.Proofs.Ytahjodpaikhhmaa
open Go Go.ChangeShapes Go.WideShapes Go.ChangeAt Go.WideMaps Go.WideElems Go.RowKit Go.Joins
set_option maxRecDepth 20000

theorem own : ownKnob Try.prog.godebug = none := by kernel_rfl
theorem laidOut : laidOutB Try.prog = true := by kernel_rfl
section
variable {H : Type} {enc : TypeId × Value → H} {P : Program} {w : World} {base : Nat} {spare : Nat → Bool} {held : Bool}
theorem trod_struct7 {t : TypeId} {f0 f1 f2 f3 f4 f5 f6 : Field} {fuel : Nat} {cs : List Value} {x : DataW H × List MemPlace} (ht : P.underlying t = some (.struct #[f0, f1, f2, f3, f4, f5, f6])) (h : DataW.trod enc P w base spare held fuel t cs = some x) :
    ∃ y0 y1 y2 y3 y4 y5 y6 n, x.1 = .agg [y0.1, y1.1, y2.1, y3.1, y4.1, y5.1, y6.1] ∧ cs.length = P.cellsOf t ∧ DataW.trod enc P w base spare held n f0.type ((cs.drop f0.offset).take (P.cellsOf f0.type)) = some y0 ∧
      DataW.trod enc P w base spare held n f1.type ((cs.drop f1.offset).take (P.cellsOf f1.type)) = some y1 ∧ DataW.trod enc P w base spare held n f2.type ((cs.drop f2.offset).take (P.cellsOf f2.type)) = some y2 ∧
      DataW.trod enc P w base spare held n f3.type ((cs.drop f3.offset).take (P.cellsOf f3.type)) = some y3 ∧ DataW.trod enc P w base spare held n f4.type ((cs.drop f4.offset).take (P.cellsOf f4.type)) = some y4 ∧
      DataW.trod enc P w base spare held n f5.type ((cs.drop f5.offset).take (P.cellsOf f5.type)) = some y5 ∧ DataW.trod enc P w base spare held n f6.type ((cs.drop f6.offset).take (P.cellsOf f6.type)) = some y6 := by
  obtain ⟨xs, n, _, rfl, hl, hlen, hf⟩ := DataW.trod_struct ht h
  match xs, hlen with
  | [y0, y1, y2, y3, y4, y5, y6], _ => exact ⟨y0, y1, y2, y3, y4, y5, y6, n, by simp, hl, by simpa using hf 0 f0 rfl, by simpa using hf 1 f1 rfl, by simpa using hf 2 f2 rfl, by simpa using hf 3 f3 rfl, by simpa using hf 4 f4 rfl, by simpa using hf 5 f5 rfl, by simpa using hf 6 f6 rfl⟩
theorem weights_all_mem {e : TypeId} {l : List (DataW H)} {d : DataW H} (hd : d ∈ l) {n : Nat} (hn : n ∈ d.weights P e) : n ∈ DataW.weightsAll P e l := by
  induction l with
  | nil => cases hd
  | cons y l ih =>
    simp only [DataW.weightsAll, List.mem_append]
    rcases List.mem_cons.1 hd with rfl | hd
    · exact .inl hn
    · exact .inr (ih hd)
end
theorem bytes_in {H : Type} {enc : TypeId × Value → H} {W : World} {base : Nat} {sp : Nat → Bool} {held : Bool} {fuel : Nat} {v : Value} {x : DataW H × List MemPlace}
    (h : DataW.trod enc Try.prog W base sp held fuel 33 [v] = some x) (hz : ∀ n ∈ x.1.weights Try.prog 33, n ≤ reachBytes) :
    ∃ a len cap, v = .slice a len cap ∧ (∃ l : List Int, l.length = len ∧ Byt W a l) ∧ len ≤ cap ∧ (a = none → cap = 0) ∧ len ≤ 140737488355328 := by
  rcases open_ints Try.underlying33 Try.underlying5 (by kernel_rfl) h with ⟨hcs, _⟩ | ⟨a, len, cap, zs, hcs, _, hl, hm, hlz, hx, hcell, hwz⟩
  · simp only [List.cons.injEq, and_true] at hcs
    subst hcs
    exact ⟨none, 0, 0, rfl, ⟨[], rfl, fun i hi => absurd hi (by simp), by simp⟩, by omega, fun _ => rfl, by omega⟩
  · simp only [List.cons.injEq, and_true] at hcs
    subst hcs
    have hle : len ≤ zs.length := by rw [hlz]; split <;> omega
    have hsz : zs.length ≤ reachBytes := by
      have := hz (((lits .u8 (zs.take len)).length + (lits .u8 (zs.drop len)).length) * Try.prog.bytesOf 5) (by rw [hx]; simp only [DataW.weights, Try.underlying33]; exact List.mem_cons_self)
      rw [show Try.prog.bytesOf 5 = 1 by kernel_rfl] at this
      simp [lits] at this
      omega
    have h47 := reachBytes_lt
    refine ⟨some a, len, cap, rfl, ⟨zs.take len, by rw [List.length_take]; omega, fun i hi => ?_, fun c hc => ?_⟩, hl, fun e => (by cases e), by omega⟩
    · rw [List.length_take] at hi
      have hc := hcell i (by omega)
      obtain ⟨b, off, spot⟩ := a
      have hs : spot = none := by
        have := World.cell?_spot (hcell 0 (by omega))
        simpa [Addr.add] using this
      subst hs
      refine ⟨b, off, rfl, ?_⟩
      rw [← add_plain, hc]
      have h1 : i < len := by omega
      simp [List.getD_eq_getElem?_getD, h1]
    · have := hwz c (List.mem_of_mem_take hc)
      have h2 := bounds_u8 this
      omega
theorem ints_in {H : Type} {enc : TypeId × Value → H} {W : World} {base : Nat} {sp : Nat → Bool} {held : Bool} {fuel : Nat} {v : Value} {x : DataW H × List MemPlace}
    (h : DataW.trod enc Try.prog W base sp held fuel 23 [v] = some x) (hz : ∀ n ∈ x.1.weights Try.prog 23, n ≤ reachBytes) :
    ∃ a len cap, v = .slice a len cap ∧ (∃ l : List Int, l.length = len ∧ Ints W a l) ∧ len ≤ cap ∧ (a = none → cap = 0) ∧ len ≤ 140737488355328 := by
  rcases open_ints Try.underlying23 Try.underlying3 (by kernel_rfl) h with ⟨hcs, _⟩ | ⟨a, len, cap, zs, hcs, _, hl, hm, hlz, hx, hcell, hwz⟩
  · simp only [List.cons.injEq, and_true] at hcs
    subst hcs
    exact ⟨none, 0, 0, rfl, ⟨[], rfl, fun i hi => absurd hi (by simp)⟩, by omega, fun _ => rfl, by omega⟩
  · simp only [List.cons.injEq, and_true] at hcs
    subst hcs
    have hle : len ≤ zs.length := by rw [hlz]; split <;> omega
    have hsz : zs.length * 8 ≤ reachBytes := by
      have := hz (((lits .i64 (zs.take len)).length + (lits .i64 (zs.drop len)).length) * Try.prog.bytesOf 3) (by rw [hx]; simp only [DataW.weights, Try.underlying23]; exact List.mem_cons_self)
      rw [show Try.prog.bytesOf 3 = 8 by kernel_rfl] at this
      simp [lits] at this
      omega
    have h47 := reachBytes_lt
    refine ⟨some a, len, cap, rfl, ⟨zs.take len, by rw [List.length_take]; omega, fun i hi => ?_⟩, hl, fun e => (by cases e), by omega⟩
    rw [List.length_take] at hi
    have hc := hcell i (by omega)
    obtain ⟨b, off, spot⟩ := a
    have hs : spot = none := by
      have := World.cell?_spot (hcell 0 (by omega))
      simpa [Addr.add] using this
    subst hs
    refine ⟨b, off, rfl, ?_⟩
    rw [← add_plain, hc]
    have h1 : i < len := by omega
    simp [List.getD_eq_getElem?_getD, h1]
/- an operation's seven cells -/
theorem op_in {H : Type} {enc : TypeId × Value → H} {W : World} {base : Nat} {sp : Nat → Bool} {held : Bool} {fuel : Nat} {cs : List Value} {x : DataW H × List MemPlace}
    (h : DataW.trod enc Try.prog W base sp held fuel 35 cs = some x) (hz : ∀ n ∈ x.1.weights Try.prog 35, n ≤ reachBytes) : ∃ o : OP, cs = (opc o).toList ∧ Oko W o := by
  obtain ⟨y0, y1, y2, y3, y4, y5, y6, k, hx, hlen, t0, t1, t2, t3, t4, t5, t6⟩ := trod_struct7 Try.underlying35 h
  have c7 : Try.prog.cellsOf 35 = 7 := by kernel_rfl
  have ki : Try.prog.cellsOf 3 = 1 := by kernel_rfl
  have ks : Try.prog.cellsOf 9 = 1 := by kernel_rfl
  have kb : Try.prog.cellsOf 33 = 1 := by kernel_rfl
  have kk : Try.prog.cellsOf 23 = 1 := by kernel_rfl
  rw [c7] at hlen
  match cs, hlen with
  | [v0, v1, v2, v3, v4, v5, v6], _ =>
    simp only [ki, ks, kb, kk, List.drop_zero, List.drop_succ_cons, List.take_succ_cons, List.take_zero] at t0 t1 t2 t3 t4 t5 t6
    have hw : ∀ n ∈ DataW.weightsEach Try.prog [3, 9, 9, 33, 3, 3, 23] [y0.1, y1.1, y2.1, y3.1, y4.1, y5.1, y6.1], n ≤ reachBytes := fun n hn => hz n (by
      rw [hx]
      simp only [DataW.weights, Try.underlying35]
      exact hn)
    obtain ⟨a0, e0, _, w0⟩ := DataW.trod_int Try.underlying3 t0
    obtain ⟨s1, e1, d1, w1⟩ := DataW.trod_string Try.underlying9 t1
    obtain ⟨s2, e2, d2, w2⟩ := DataW.trod_string Try.underlying9 t2
    obtain ⟨a4, e4, _, w4⟩ := DataW.trod_int Try.underlying3 t4
    obtain ⟨a5, e5, _, w5⟩ := DataW.trod_int Try.underlying3 t5
    obtain ⟨ba, bn, bc, rfl, hb1, hb2, hb3, hb4⟩ := bytes_in t3 (fun n hn => hw n (by simp only [DataW.weightsEach, List.mem_append]; exact .inr (.inr (.inr (.inl hn)))))
    obtain ⟨ka, kn, kc, rfl, hk1, hk2, hk3, hk4⟩ := ints_in t6 (fun n hn => hw n (by simp only [DataW.weightsEach, List.mem_append]; exact .inr (.inr (.inr (.inr (.inr (.inr (.inl hn))))))))
    have z1 := hw s1.data.toList.length (by simp only [DataW.weightsEach, List.mem_append]; exact .inr (.inl (by rw [d1]; simp [DataW.weights])))
    have z2 := hw s2.data.toList.length (by simp only [DataW.weightsEach, List.mem_append]; exact .inr (.inr (.inl (by rw [d2]; simp [DataW.weights]))))
    have h47 := reachBytes_lt
    simp only [List.cons.injEq, and_true] at e0 e1 e2 e4 e5
    subst e0 e1 e2 e4 e5
    have b4 := bounds_i64 w4
    have b5 := bounds_i64 w5
    have q1 : s1.data.toList.length = s1.size := nm_size s1
    have q2 : s2.data.toList.length = s2.size := nm_size s2
    exact ⟨⟨a0, s1, s2, ba, bn, bc, a4, a5, ka, kn, kc⟩, rfl, ⟨by show s1.size ≤ _; omega, by show s2.size ≤ _; omega, hb1, hb2, hb3, hk1, hk2, hk3, by show a4 ≤ _; omega, by show a5 ≤ _; omega, hb4, hk4⟩⟩
theorem opv_in {H : Type} {enc : TypeId × Value → H} {W : World} {base b0 : Nat} {sp : Nat → Bool} {held : Bool} {r : Reach} {v : Value} {d : DataW H} {p : List MemPlace}
    (hv : Value.okWide Try.prog W r b0 35 v) (h : DataW.Trod enc Try.prog W base sp held 35 v d p) (hz : ∀ n ∈ d.weights Try.prog 35, n ≤ reachBytes) : ∃ o : OP, v = .agg (opc o) ∧ Oko W o := by
  obtain ⟨cs, rfl, hsz⟩ := okWide_struct Try.underlying35 hv
  obtain ⟨fuel, hf⟩ := h
  obtain ⟨o, e, ho⟩ := op_in hf hz
  refine ⟨o, ?_, ho⟩
  have e' : cs.toList = (opc o).toList := by simpa [Value.cells] using e
  rw [Array.ext' e']
theorem ops_in {H : Type} {enc : TypeId × Value → H} {W : World} {base : Nat} {sp : Nat → Bool} {held : Bool} {fuel : Nat} {v : Value} {x : DataW H × List MemPlace}
    (h : DataW.trod enc Try.prog W base sp held fuel 22 [v] = some x) (hz : ∀ n ∈ x.1.weights Try.prog 22, n ≤ reachBytes) :
    ∃ (a : Option Addr) (len cap : Nat) (O : List OP), v = .slice a len cap ∧ O.length = len ∧ Opr W a O ∧ (∀ i, i < len → Oko W (O.getD i oz)) ∧ len ≤ cap ∧ len ≤ 140737488355328 := by
  rcases Go.Deep.open_slice Try.underlying22 h with ⟨hcs, _⟩ | ⟨a, len, cap, m, n, D, Pl, hcs, _, hl, hm, hmm, hx, hel⟩
  · simp only [List.cons.injEq, and_true] at hcs
    subst hcs
    exact ⟨none, 0, 0, [], rfl, rfl, fun i hi => absurd hi (by simp), fun i hi => by omega, by omega, by omega⟩
  · simp only [List.cons.injEq, and_true] at hcs
    subst hcs
    have hlm : len ≤ m := by rw [hmm]; split <;> omega
    have c7 : Try.prog.cellsOf 35 = 7 := by kernel_rfl
    have h47 := reachBytes_lt
    have hlen : len ≤ 140737488355328 := by
      have := hz ((((List.range len).map D).length + ((List.range (m - len)).map fun j => D (len + j)).length) * Try.prog.bytesOf 35) (by rw [hx]; simp only [DataW.weights, Try.underlying22]; exact List.mem_cons_self)
      rw [show Try.prog.bytesOf 35 = 104 by kernel_rfl] at this
      simp at this
      omega
    have each : ∀ i, i < len → ∃ o : OP, (W.cell? (a.add (i * 7)) = some (.int .i64 o.q) ∧ W.cell? (a.add (i * 7 + 1)) = some (.string o.nm) ∧ W.cell? (a.add (i * 7 + 2)) = some (.string o.nt) ∧ W.cell? (a.add (i * 7 + 3)) = some (.slice o.ba o.bn o.bc) ∧
        W.cell? (a.add (i * 7 + 4)) = some (.int .i64 o.n) ∧ W.cell? (a.add (i * 7 + 5)) = some (.int .i64 o.k) ∧ W.cell? (a.add (i * 7 + 6)) = some (.slice o.ka o.kn o.kc)) ∧ Oko W o := by
      intro i hi
      obtain ⟨cs', h1, h2⟩ := hel i (by omega)
      rw [c7] at h1
      obtain ⟨_, hlen', hcell⟩ := World.cells?_some h1
      obtain ⟨o, rfl, ho⟩ := op_in h2 (fun k hk => hz k (by
        rw [hx]
        simp only [DataW.weights, Try.underlying22]
        refine List.mem_cons_of_mem _ (List.mem_append.2 (.inl (weights_all_mem (d := D i) (List.mem_map.2 ⟨i, List.mem_range.2 hi, rfl⟩) hk)))))
      have q0 := hcell 0 (by omega)
      have q1 := hcell 1 (by omega)
      have q2 := hcell 2 (by omega)
      have q3 := hcell 3 (by omega)
      have q4 := hcell 4 (by omega)
      have q5 := hcell 5 (by omega)
      have q6 := hcell 6 (by omega)
      rw [Go.Deep.add_add] at q0 q1 q2 q3 q4 q5 q6
      exact ⟨o, ⟨by simpa using q0, by simpa using q1, by simpa using q2, by simpa using q3, by simpa using q4, by simpa using q5, by simpa using q6⟩, ho⟩
    obtain ⟨f, hf⟩ := Go.Deep.choose_lt each
    have hget : ∀ i, i < len → ((List.range len).map f).getD i oz = f i := fun i hi => by
      rw [List.getD_eq_getElem?_getD, List.getElem?_map, List.getElem?_range hi]; rfl
    refine ⟨some a, len, cap, (List.range len).map f, rfl, by simp, fun i hi => ?_, fun i hi => ?_, hl, hlen⟩
    · rw [List.length_map, List.length_range] at hi
      obtain ⟨b, off, spot⟩ := a
      have hs : spot = none := by
        have := World.cell?_spot (hf 0 (by omega)).1.1
        simpa [Addr.add] using this
      subst hs
      obtain ⟨q0, q1, q2, q3, q4, q5, q6⟩ := (hf i hi).1
      rw [add_plain] at q0 q1 q2 q3 q4 q5 q6
      rw [hget i hi]
      simp only [Nat.add_assoc]
      exact ⟨b, off, rfl, q0, q1, q2, q3, q4, q5, q6⟩
    · rw [hget i hi]
      exact (hf i hi).2
end Go.Proofs.Ytahjodpaikhhmaa
