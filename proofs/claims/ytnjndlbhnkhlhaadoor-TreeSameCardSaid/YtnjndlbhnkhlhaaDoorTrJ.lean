/- The document's build: trees out of nodes. -/
import Derived.Test.YtnjndlbhnkhlhaaDoorTrI
namespace Go.Proofs.YtnjndlbhnkhlhaaDoor
open Go Go.RowKit Pk Rl
set_option maxRecDepth 20000

theorem wp_appq {ops : Array Oper} {rest : List Oper} {o : Oper} {a : Act} {Q : Exit → Act → World → Prop} (s x : Operand) (w : World) (hgd : o.guard = none)
    (hop : o.op = .call { callee := .builtin .append, args := #[s, x], argTypes := #[40, 40] })
    (k : Nat) (B : Nat) (v : Value) (D : List (List Nd)) (hs : a.eval s = v) (ho : OwnQ k w B v D) (g : Nat) (hx : a.eval x = .slice (some ⟨g, 0, none⟩) 1 1) (p : List Nd) (nd : Nd) (A : Option Addr) (mm C : Nat)
    (hc : w.heap[g]? = some (tobjT nd A mm C)) (hk : Kid k w B v p (nd, A, mm, C))
    (hlen : D.length ≤ 100000) (hB : B ≤ w.heap.size) (m : Nat) (hm : D.length + 1 = m)
    (h : ∀ A' c' w', OwnQ k w' B (.slice A' m c') (D ++ [p]) → Below B w w' → wpList Tryd.prog ops Q rest (a.put o.dst (.slice A' m c')) w') : wpList Tryd.prog ops Q (o :: rest) a w := by
  refine wpList_plain hgd fun K hK => ?_
  obtain ⟨i, hi, hz, hsz, hy⟩ := infoQ
  obtain ⟨X, h1, h2, h3⟩ := ho
  obtain ⟨v', w', hrun, r2, r3, _, r5⟩ := run_append_own_at (P := Tryd.prog) w B 40 o.type 42 i (tOfT nz none 0 0) 12 120 Tryd.underlying40 hi hz hsz hy rfl (by omega) v D.length (icls X) h2 ⟨g, 0, none⟩ 1 1 (icl (nd, A, mm, C)) rfl
    (fun j u hj => by
      have hjl : j < 12 := by
        rcases Nat.lt_or_ge j (icl (nd, A, mm, C)).length with h | h
        · exact h
        · rw [List.getElem?_eq_none h] at hj; cases hj
      rw [add_plain, cell_of_row w g _ _ _ _ hc, ← hj]
      rcases j with _ | _ | _ | _ | _ | _ | _ | _ | _ | _ | _ | _ | j
      all_goals first | rfl | omega)
    (fun u hu => icls_one [(nd, A, mm, C)] u (by simpa [icls] using hu)) (by unfold maxLen; omega) (by omega) hB
  have hO : OwnQ k w' B v' (D ++ [p]) := by
    refine ⟨X ++ [(nd, A, mm, C)], by simp [h1], by rw [List.length_append, icls_app]; simpa [icls] using r2, fun j hj => ?_⟩
    have old : ∀ q x, Kid k w B v q x → Kid k w' B v' q x := fun q x hq =>
      ⟨hq.1, hq.2.1, hq.2.2.same (fun b hb => r3.block b hb.2.1 (Ne.symm hb.2.2)) (fun b hb => ⟨hb.1, by have := r3.size; omega, by
        rcases r5 with e | e
        · rw [e]; exact hb.2.2
        · rw [e]; intro e2; injection e2 with e2; omega⟩)⟩
    rw [List.length_append, List.length_singleton] at hj
    by_cases hjl : j < D.length
    · rw [pgetD_app D p j hjl, igetD_app X _ j (by omega)]
      exact old _ _ (h3 j hjl)
    · obtain rfl : j = D.length := by omega
      rw [pgetD_last, ← h1, igetD_last]
      exact old _ _ hk
  obtain ⟨A', c', rfl, _⟩ := hO.form
  have ek : (D ++ [p]).length = m := by rw [List.length_append, List.length_singleton, hm]
  rw [ek] at hO hrun
  unfold Oper.wp
  simp [execOp, hop, resolve, invoke, builtin, hs, hx, hrun, Result.andThen]
  exact hK _ _ (h A' c' w' hO ((Below.refl _ _).grown r3 hB (fun k hk => (World.ownsRow.lt h2 k hk).1)))
/- what build answers -/
def Bt (k : Nat) (w : World) (at_ : Nat) (l : List Nd) (e : Ending) (w' : World) : Prop :=
  ∃ nd A m C N, e = .returned (.tuple #[tOfT nd A m C, .int .i64 (N : Int), .bool (bld k l)]) ∧ (bld k l = true → nd = l.headD nz ∧ m = (pts l).length ∧ N = ((at_ + (frn l).length : Nat) : Int) ∧ Trs k w' (fun b => w.heap.size ≤ b ∧ b < w'.heap.size) A (pts l))
theorem headD_frn {l : List Nd} (h : frn l ≠ []) : l.headD nz = (frn l).headD nz := by
  rcases l with _ | ⟨n, r⟩
  · exact absurd rfl h
  · rw [frn_cons] at h ⊢
    split
    · rename_i hc; rw [if_pos hc] at h; exact absurd rfl h
    · rfl
/- a tree in a box of its own -/
def Trb (w : World) (g : Nat) (n : Nd) (A : Option Addr) (m C : Nat) : Prop := w.heap[g]? = some (tobjT n A m C)
theorem Trb.cells {w : World} {g : Nat} {n : Nd} {A : Option Addr} {m C : Nat} (h : Trb w g n A m C) : Atn w g 0 n ∧ w.cell? ⟨g, 11, none⟩ = some (.slice A m C) := by
  refine ⟨⟨?_, ?_, ?_, ?_, ?_, ?_, ?_, ?_, ?_, ?_, ?_⟩, ?_⟩ <;> (rw [cell_of_row w g _ _ _ _ h]; rfl)
theorem Trb.free {w : World} {g : Nat} {n : Nd} {A : Option Addr} {m C : Nat} (h : Trb w g n A m C) (j : Nat) : w.frozen? ⟨g, j, none⟩ = false := by
  simp [World.frozen?, Trb] at h ⊢
  simp [h]
theorem Trb.lt {w : World} {g : Nat} {n : Nd} {A : Option Addr} {m C : Nat} (h : Trb w g n A m C) : g < w.heap.size := World.block_lt_of_cell? _ _ h.cells.2
theorem Trb.below {B : Nat} {w w' : World} {g : Nat} {n : Nd} {A : Option Addr} {m C : Nat} (h : Trb w g n A m C) (hb : Below B w w') (hg : g < B) : Trb w' g n A m C := by unfold Trb; rw [hb.block g hg]; exact h
theorem Trb.set {w : World} {g : Nat} {n : Nd} {A : Option Addr} {m C : Nat} (h : Trb w g n A m C) (A' : Option Addr) (m' C' : Nat) : Trb (w.setCell ⟨g, 11, none⟩ (.slice A' m' C')) g n A' m' C' := by
  unfold Trb
  rw [heap_setCell_same w g 11 _ _ _ h]
  rfl
theorem Trb.start (w : World) (n : Nd) (A : Option Addr) (m C : Nat) : Trb (w.alloc (tobjT n A m C)) w.heap.size n A m C := heap_alloc_new w _
end Go.Proofs.YtnjndlbhnkhlhaaDoor
