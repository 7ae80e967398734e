/- Many matches behind a row of one's own. -/
import Derived.Test.YtccjflioaajgiaaGreatDoorMU
namespace Go.Proofs.YtccjflioaajgiaaGreatDoor
open Go Go.RowKit Go.Maps Pk Rl
set_option maxRecDepth 20000

theorem run_appM0 (w : World) (B : Nat) (ty : TypeId) (v : Value) (L : List Mt) (ho : OwnMt w B v L) (c : Nat) :
    (Builtin.append_ #[37, 37] ty #[v, .slice none 0 c]).run Tryz.prog w = .ok v w := by
  obtain ⟨i, z, hi, hz, hsz, hy, hzs⟩ := infoM
  have ht := Tryz.underlying37
  rcases ho.2 with ⟨rfl, _⟩ | ⟨g, cap, cur, rfl, _, _, hnc, _⟩
  · simp [Builtin.append_, run_underlying ht, sizeOf, typeInfo, hi, Builtin.lenOf, Builtin.firstCells]
  · simp [Builtin.append_, run_underlying ht, sizeOf, typeInfo, hi, Builtin.lenOf, Builtin.firstCells, hnc, storeCells]
theorem run_appMs (w : World) (B : Nat) (ty : TypeId) (v : Value) (L : List Mt) (ho : OwnMt w B v L) (A : Option Addr) (m c : Nat) (M : List Mt) (hm : M.length = m) (hb : Mrs w A M)
    (hlen : L.length + m ≤ 100000000) (hB : B ≤ w.heap.size) :
    ∃ v' w', (Builtin.append_ #[37, 37] ty #[v, .slice A m c]).run Tryz.prog w = .ok v' w' ∧ OwnMt w' B v' (L ++ M) ∧ Below B w w' := by
  obtain ⟨i, z, hi, hz, hsz, hy, hzs⟩ := infoM
  rcases A with _ | ad
  · have hl : M = [] := by
      rcases M with _ | ⟨x, M⟩
      · rfl
      · obtain ⟨b, off, h, _⟩ := hb 0 (by simp)
        cases h
    subst hl
    subst hm
    exact ⟨v, w, run_appM0 w B ty v L ho c, by rw [List.append_nil]; exact ho, Below.refl _ _⟩
  · obtain ⟨v', w', h1, h2, h3, _⟩ := run_append_own (P := Tryz.prog) w B 37 ty 46 i z 2 16 Tryz.underlying37 hi hz hsz hy hzs (by omega) v L.length (mcls L) ho ad m c (mcls M)
      (by rw [mcls_len, hm])
      (fun j u hj => by
        have hjl : j < M.length * 2 := by
          rcases Nat.lt_or_ge j (mcls M).length with h | h
          · rwa [mcls_len] at h
          · rw [List.getElem?_eq_none h] at hj; cases hj
        obtain ⟨b, off, h, c0, c1⟩ := hb (j / 2) (by omega)
        injection h with h
        subst h
        rw [show j = j / 2 * 2 + j % 2 by omega, mcls_get M (j / 2) (by omega) (j % 2) (by omega)] at hj
        have h2 : j % 2 = 0 ∨ j % 2 = 1 := by omega
        rw [add_plain]
        rcases h2 with h2 | h2
        · rw [h2] at hj
          have : u = .int .u64 ((gm M (j / 2)).1 : Int) := by simpa [enM] using hj.symm
          rw [this, ← c0]; congr 2; omega
        · rw [h2] at hj
          have : u = .int .u64 ((gm M (j / 2)).2 : Int) := by simpa [enM] using hj.symm
          rw [this, ← c1]; congr 2; omega)
      (fun u hu => by
        unfold mcls at hu
        obtain ⟨x, _, hx⟩ := List.mem_flatMap.1 hu
        simp [enM] at hx
        rcases hx with rfl | rfl <;> rfl) (by unfold maxLen; omega) (by omega) hB
    refine ⟨v', w', h1, ?_, (Below.refl _ _).grown h3 hB (fun k hk => (World.ownsRow.lt ho k hk).1)⟩
    unfold OwnMt
    rw [List.length_append, mcls_app, hm]
    exact h2
theorem wp_appMs {ops : Array Oper} {rest : List Oper} {o : Oper} {a : Act} {Q : Exit → Act → World → Prop} (s x : Operand) (w : World) (hgd : o.guard = none)
    (hop : o.op = .call { callee := .builtin .append, args := #[s, x], argTypes := #[37, 37] })
    (B : Nat) (v : Value) (L : List Mt) (hs : a.eval s = v) (ho : OwnMt w B v L) (A : Option Addr) (m c : Nat) (M : List Mt) (hx : a.eval x = .slice A m c) (hm : M.length = m) (hb : Mrs w A M)
    (k : Nat) (hk : (L ++ M).length = k) (hlen : k ≤ 100000000) (hB : B ≤ w.heap.size)
    (h : ∀ A' c' w', OwnMt w' B (.slice A' k c') (L ++ M) → Below B w w' → wpList Tryz.prog ops Q rest (a.put o.dst (.slice A' k c')) w') : wpList Tryz.prog ops Q (o :: rest) a w := by
  refine wpList_plain hgd fun K hK => ?_
  have hlen2 : L.length + m ≤ 100000000 := by rw [List.length_append] at hk; omega
  obtain ⟨v', w', hrun, h2, h3⟩ := run_appMs w B o.type v L ho A m c M hm hb hlen2 hB
  obtain ⟨A', c', rfl, hby⟩ := h2.form
  rw [hk] at h2 hrun
  unfold Oper.wp
  simp [execOp, hop, resolve, invoke, builtin, hs, hx, hrun, Result.andThen]
  exact hK _ _ (h A' c' w' h2 h3)
end Go.Proofs.YtccjflioaajgiaaGreatDoor
