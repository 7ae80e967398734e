/- Nodes behind a row of one's own, beside patterns' boxes; the size of a row's first node. -/
import Derived.Test.YtccjflioaajgiaaGreatDoorMU
namespace Go.Proofs.YtccjflioaajgiaaGreatDoor
open Go Go.RowKit Go.Maps Pk Rl
set_option maxRecDepth 20000

theorem run_appn2 (w : World) (B : Nat) (ty : TypeId) (v : Value) (L : List Nd) (ho : RowN w B v L) (A : Option Addr) (m c : Nat) (M : List Nd) (hm : M.length = m) (hb : Nds w A M) (hc : A = none → c = 0)
    (hlen : L.length + m ≤ 1000000) (hB : B ≤ w.heap.size) :
    ∃ v' w', (Builtin.append_ #[28, 28] ty #[v, .slice A m c]).run Tryz.prog w = .ok v' w' ∧ RowN w' B v' (L ++ M) ∧ Below B w w' ∧ (∀ g a n c win, PtB w g a n c win → PtB w' g a n c win) := by
  obtain ⟨i, hi, hz, hs, hy⟩ := infoN
  rcases A with _ | ad
  · obtain rfl := hc rfl
    have hl : M = [] := by
      rcases M with _ | ⟨x, M⟩
      · rfl
      · obtain ⟨b, off, h, _⟩ := hb 0 (by simp)
        cases h
    subst hl
    subst hm
    exact ⟨v, w, run_append_owned_none (P := Tryz.prog) (w := w) B 28 ty 55 i 11 Tryz.underlying28 hi v _ _ ho, by rw [List.append_nil]; exact ho, Below.refl _ _, fun _ _ _ _ _ h => h⟩
  · obtain ⟨v', w', h1, h2, h3, _⟩ := run_append_own (P := Tryz.prog) w B 28 ty 55 i (nOf nz) 11 96 Tryz.underlying28 hi hz hs hy rfl (by omega) v L.length (ncls L) ho ad m c (ncls M)
      (by rw [ncls_len, hm])
      (fun j u hj => by
        have hjl : j < M.length * 11 := by
          rcases Nat.lt_or_ge j (ncls M).length with h | h
          · rwa [ncls_len] at h
          · rw [List.getElem?_eq_none h] at hj; cases hj
        obtain ⟨b, off, h, c0, c1, c2, c3, c4, c5, c6, c7, c8, c9, c10⟩ := hb (j / 11) (by omega)
        injection h with h
        subst h
        rw [show j = j / 11 * 11 + j % 11 by omega, ncls_get M (j / 11) (by omega) (j % 11) (by omega)] at hj
        rw [add_plain, show off + j = off + j / 11 * 11 + j % 11 by omega]
        have h4 : j % 11 < 11 := by omega
        generalize j % 11 = p at hj h4
        rcases p with _ | _ | _ | _ | _ | _ | _ | _ | _ | _ | _ | p
        · rw [Nat.add_zero, c0]; exact hj
        · rw [c1]; exact hj
        · rw [c2]; exact hj
        · rw [c3]; exact hj
        · rw [c4]; exact hj
        · rw [c5]; exact hj
        · rw [c6]; exact hj
        · rw [c7]; exact hj
        · rw [c8]; exact hj
        · rw [c9]; exact hj
        · rw [c10]; exact hj
        · omega)
      (ncls_one M)
      (by unfold maxLen; omega) (by omega) hB
    refine ⟨v', w', h1, ?_, (Below.refl _ _).grown h3 hB (fun k hk => (World.ownsRow.lt ho k hk).1), fun g a n c win hp => by
      unfold PtB at hp ⊢
      rw [h3.block g (Array.getElem?_eq_some_iff.1 hp).1 (fun e => ?_)]
      · exact hp
      · rcases ho.2 with ⟨rfl, _⟩ | ⟨g', cap, cur, rfl, _, hh, _⟩
        · cases e
        · injection e with e
          rw [e, hh] at hp
          injection hp with hp
          injection hp with _ hp _
          exact absurd hp (by decide)⟩
    have : (L ++ M).length = L.length + m := by rw [List.length_append, hm]
    unfold RowN
    rw [this, ncls_app]
    exact h2
theorem wp_appns2 {ops : Array Oper} {rest : List Oper} {o : Oper} {a : Act} {Q : Exit → Act → World → Prop} (s x : Operand) (w : World) (hgd : o.guard = none)
    (hop : o.op = .call { callee := .builtin .append, args := #[s, x], argTypes := #[28, 28] })
    (B : Nat) (v : Value) (L : List Nd) (hs : a.eval s = v) (ho : RowN w B v L) (A : Option Addr) (m c : Nat) (M : List Nd) (hx : a.eval x = .slice A m c) (hm : M.length = m) (hb : Nds w A M) (hc : A = none → c = 0)
    (k : Nat) (hk : (L ++ M).length = k) (hlen : k ≤ 1000000) (hB : B ≤ w.heap.size)
    (h : ∀ A' c' w', RowN w' B (.slice A' k c') (L ++ M) → Below B w w' → (∀ g a n c win, PtB w g a n c win → PtB w' g a n c win) → wpList Tryz.prog ops Q rest (a.put o.dst (.slice A' k c')) w') : wpList Tryz.prog ops Q (o :: rest) a w := by
  refine wpList_plain hgd fun K hK => ?_
  have hlen2 : L.length + m ≤ 1000000 := by rw [List.length_append] at hk; omega
  obtain ⟨v', w', hrun, h2, h3, h4⟩ := run_appn2 w B o.type v L ho A m c M hm hb hc hlen2 hB
  obtain ⟨A', c', rfl, hby⟩ := h2.form
  rw [hk] at h2 hrun
  unfold Oper.wp
  simp [execOp, hop, resolve, invoke, builtin, hs, hx, hrun, Result.andThen]
  exact hK _ _ (h A' c' w' h2 h3 h4)
theorem RowN.free {w : World} {B : Nat} {A : Option Addr} {n c : Nat} {x : Nd} {D : List Nd} (h : RowN w B (.slice A n c) (x :: D)) : ∃ g, A = some ⟨g, 0, none⟩ ∧ B ≤ g ∧ g < w.heap.size ∧ (∀ j, w.frozen? ⟨g, j, none⟩ = false) ∧ n = (x :: D).length ∧ n ≤ c ∧ Nds w A (x :: D) ∧ w.cell? ⟨g, 6 + 4, none⟩ = some (.int .i64 x.s) ∧ ∃ cur, w.heap[g]? = some (.cells cur 55 (0, 0)) := by
  obtain ⟨A', c', e, hn, hc⟩ := h.form
  injection e with e1 e2 e3
  subst e1 e2 e3
  rcases h.2 with ⟨e, _⟩ | ⟨g, cap, cur, e, hB, hh, _⟩
  · injection e with e1 e2 e3
    cases e2
  · injection e with e1 e2 e3
    subst e1
    obtain ⟨b, off, e4, _, _, _, _, _, _, _, _, _, _, h6⟩ := hn 0 (by simp)
    injection e4 with e4
    injection e4 with e5 e6 _
    subst e5 e6
    exact ⟨g, rfl, hB, (Array.getElem?_eq_some_iff.1 hh).1, fun j => by simp [World.frozen?, hh], rfl, hc, hn, by simpa using h6, cur, hh⟩
theorem Nds.size {w : World} {g : Nat} {x : Nd} {D : List Nd} (h : Nds w (some ⟨g, 0, none⟩) (x :: D)) (s : Int) : Nds (w.setCell ⟨g, 10, none⟩ (.int .i64 s)) (some ⟨g, 0, none⟩) (⟨x.k, x.p, x.y, x.g, x.lo, x.hi, s⟩ :: D) := by
  intro i hi
  obtain ⟨b, off, e, h0, h1, h2, h3, h4, h5, h6, h7, h8, h9, h10⟩ := h i (by simpa using hi)
  injection e with e
  injection e with e1 e2 _
  subst e1 e2
  have ne : ∀ j v, j ≠ 10 → w.cell? ⟨g, j, none⟩ = some v → (w.setCell ⟨g, 10, none⟩ (.int .i64 s)).cell? ⟨g, j, none⟩ = some v := fun j v hj hv => by
    rw [← hv]; apply World.cell?_setCell_other; intro e; injection e with _ e2 _; exact hj e2.symm
  refine ⟨g, 0, rfl, ?_⟩
  rcases i with _ | i
  · simp only [Nat.zero_mul, Nat.add_zero, Nat.zero_add, List.getD_cons_zero] at *
    exact ⟨ne _ _ (by omega) h0, ne _ _ (by omega) h1, ne _ _ (by omega) h2, ne _ _ (by omega) h3, ne _ _ (by omega) h4, ne _ _ (by omega) h5, ne _ _ (by omega) h6, ne _ _ (by omega) h7, ne _ _ (by omega) h8, ne _ _ (by omega) h9, (by apply World.cell?_setCell_same; exact h10)⟩
  · simp only [List.getD_cons_succ] at *
    exact ⟨ne _ _ (by omega) h0, ne _ _ (by omega) h1, ne _ _ (by omega) h2, ne _ _ (by omega) h3, ne _ _ (by omega) h4, ne _ _ (by omega) h5, ne _ _ (by omega) h6, ne _ _ (by omega) h7, ne _ _ (by omega) h8, ne _ _ (by omega) h9, ne _ _ (by omega) h10⟩
end Go.Proofs.YtccjflioaajgiaaGreatDoor
