/- Bytes appended where there is room: what the row is then, behind its length as well. -/
import Derived.Test.YtclbhnmgpljboaaPkBack
namespace Go.Proofs.Ytclbhnmgpljboaa
open Go Go.RowKit Pk Rl

/- a row of c zeros over whose front bytes were laid -/
def Row (w : World) (g c : Nat) (l : List Int) : Prop := w.heap[g]? = some (.cells (splice (List.replicate c (Value.int .u8 0)) 0 (l.map (Value.int .u8))).toArray 5 (0, 0))
theorem Row.zero {w : World} {g c : Nat} {l : List Int} (h : Row w g c l) (j : Nat) (hj : l.length ≤ j) (hc : j < c) : w.cell? ⟨g, j, none⟩ = some (.int .u8 0) := by
  rw [cell_of_row w g j _ 5 (0, 0) h]
  have e : (splice (List.replicate c (Value.int .u8 0)) 0 (l.map (Value.int .u8)))[j]? = some (.int .u8 0) := by
    unfold splice
    rw [List.take_zero, List.nil_append, List.getElem?_append_right (by simpa using hj)]
    simp only [List.length_map, Nat.zero_add, List.drop_replicate, List.getElem?_replicate]
    rw [if_pos (by omega)]
  simpa using e
theorem Row.below {B : Nat} {w w' : World} {g c : Nat} {l : List Int} (h : Row w g c l) (hb : Below B w w') (hg : g < B) : Row w' g c l := by
  unfold Row
  rw [hb.block g hg]
  exact h
theorem wp_fit {ops : Array Oper} {rest : List Oper} {o : Oper} {a : Act} {Q : Exit → Act → World → Prop} (s x : Operand) (w : World) (hgd : o.guard = none)
    (hop : o.op = .call { callee := .builtin .append, args := #[s, x], argTypes := #[22, 22] })
    (g c : Nat) (A : Option Addr) (m cap : Nat) (l : List Int) (hs : a.eval s = .slice (some ⟨g, 0, none⟩) 0 c) (hx : a.eval x = .slice A m cap) (hl : l.length = m)
    (hg : w.heap[g]? = some (.cells (madeCells #[.int .u8 0] c) 5)) (hb : Byt w A l) (hcap : A = none → cap = 0) (hc : m ≤ c) (hm : c ≤ 1000000) (B : Nat) (w0 : World) (hb0 : Below B w0 w) (hBg : B ≤ g)
    (h : ∀ w', Row w' g c l → Below B w0 w' → wpList Try.prog ops Q rest (a.put o.dst (.slice (some ⟨g, 0, none⟩) m c)) w') : wpList Try.prog ops Q (o :: rest) a w := by
  refine wpList_plain hgd fun K hK => ?_
  obtain ⟨i, hi, hz, hsz, hy⟩ := info5
  rw [← made_zeros] at hg
  rcases A with _ | ad
  · obtain rfl := hcap rfl
    have hln : l = [] := by
      rcases l with _ | ⟨y, l⟩
      · rfl
      · obtain ⟨b, off, h, _⟩ := hb.1 0 (by simp)
        cases h
    subst hln
    subst hl
    have own : w.ownsRow B 5 1 (.slice (some ⟨g, 0, none⟩) 0 c) 0 [] := ⟨rfl, .inr ⟨g, c, _, rfl, hBg, hg, by omega, by unfold maxLen; omega, by simp, by simp⟩⟩
    have hrun := run_append_owned_none (P := Try.prog) (w := w) B 22 o.type 5 i 1 Try.underlying22 hi _ _ _ own
    unfold Oper.wp
    simp [execOp, hop, resolve, invoke, builtin, hs, hx, hrun, Result.andThen]
    exact hK _ _ (h w (by unfold Row; rw [hg]; simp [splice]) hb0)
  · have hrun := run_append_room (P := Try.prog) w 22 o.type 5 i Try.underlying22 hi g 0 c _ hg ad m cap (l.map (Value.int .u8)) (by simp [hl, hsz])
      (fun j u hj => by
        obtain ⟨ad', e, H⟩ := src_of hb (by
          rcases l with _ | ⟨y, l⟩
          · simp at hj
          · simp)
        injection e with e
        subst e
        exact H j u hj) cells_one (by omega) (by simp [hl]; omega)
    unfold Oper.wp
    simp only [Nat.zero_add, Nat.zero_mul] at hrun
    simp [execOp, hop, resolve, invoke, builtin, hs, hx, hrun, Result.andThen]
    refine hK _ _ (h _ ?_ (below_setRow hb0 hBg _))
    unfold Row
    rw [setRow_heap w g _ _ 5 _ hg]
    simp [splice]
end Go.Proofs.Ytclbhnmgpljboaa
