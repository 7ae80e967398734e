/- Rows of values of the call's own: what they hold, and appending to them. -/
import Derived.Test.YtiddpoihhfphmaaDoorEvVals
import Derived.Deep.RegionLaw
namespace Go.Proofs.YtiddpoihhfphmaaDoor
open Go Go.RowKit Pk Rl
set_option maxRecDepth 20000

def OwnV (w : World) (B : Nat) (v : Value) (L : List VV) : Prop := w.ownsRow B 57 4 v L.length (vcls L)
theorem OwnV.nil (w : World) (B : Nat) : OwnV w B (.slice none 0 0) [] := World.ownsRow_nil w B 57 4
theorem OwnV.empty (w : World) : OwnV (w.alloc (.cells #[] 57)) w.heap.size (.slice (some ⟨w.heap.size, 0, none⟩) 0 0) [] :=
  World.ownsRow_made w #[] 0 (Nat.le_refl _) (by decide) rfl
theorem OwnV.form {w : World} {B : Nat} {v : Value} {L : List VV} (h : OwnV w B v L) : ∃ A c, v = .slice A L.length c ∧ Vals w A L := by
  rcases h.2 with ⟨rfl, h0⟩ | ⟨g, cap, cur, rfl, _⟩
  · have : L = [] := List.eq_nil_of_length_eq_zero h0
    subst this
    exact ⟨none, 0, rfl, Vals.nil _ _⟩
  · refine ⟨_, _, rfl, fun i hi => ⟨g, 0, rfl, ?_⟩⟩
    have key : ∀ j u, j < 4 → (vcl (L.getD i vz))[j]? = some u → w.cell? ⟨g, 0 + i * 4 + j, none⟩ = some u := fun j u hj hu => by
      have := World.ownsRow.cells h (g := g) rfl (i * 4 + j) u (by rw [vcls_get L i hi j hj]; exact hu)
      rwa [add_plain, ← Nat.add_assoc] at this
    exact ⟨key 0 _ (by omega) rfl, key 1 _ (by omega) rfl, key 2 _ (by omega) rfl, key 3 _ (by omega) rfl⟩
theorem OwnV.vals {w : World} {B : Nat} {A : Option Addr} {k c : Nat} {L : List VV} (h : OwnV w B (.slice A k c) L) : Vals w A L := by
  obtain ⟨A', c', e, hb⟩ := h.form
  injection e with e1 e2 e3
  subst e1
  exact hb
theorem OwnV.below {w w' : World} {B : Nat} {v : Value} {L : List VV} (h : OwnV w B v L) (hb : Below w.heap.size w w') : OwnV w' B v L := by
  refine ⟨h.1, ?_⟩
  rcases h.2 with h0 | ⟨g, cap, cur, hv, hg, hh, r⟩
  · exact .inl h0
  · refine .inr ⟨g, cap, cur, hv, hg, ?_, r⟩
    rw [hb.block g ?_]
    · exact hh
    · rcases Nat.lt_or_ge g w.heap.size with h1 | h1
      · exact h1
      · rw [Array.getElem?_eq_none h1] at hh; cases hh
theorem OwnV.mono {w : World} {B B' : Nat} {v : Value} {L : List VV} (h : OwnV w B v L) (hB : B' ≤ B) : OwnV w B' v L := by
  refine ⟨h.1, ?_⟩
  rcases h.2 with h0 | ⟨g, cap, cur, hv, hg, r⟩
  · exact .inl h0
  · exact .inr ⟨g, cap, cur, hv, Nat.le_trans hB hg, r⟩
theorem OwnV.capz {w : World} {B : Nat} {A : Option Addr} {k c : Nat} {L : List VV} (h : OwnV w B (.slice A k c) L) (hA : A = none) : c = 0 := by
  rcases h.2 with ⟨h', _⟩ | ⟨g, cap, cur, h', _⟩
  · injection h'
  · injection h' with e1 e2 e3
    rw [hA] at e1
    cases e1
/- a store into a block below the row's -/
theorem OwnV.setCell {w : World} {B : Nat} {v : Value} {L : List VV} (h : OwnV w B v L) (g j : Nat) (hg : g < B) (x : Value) : OwnV (w.setCell ⟨g, j, none⟩ x) B v L := by
  refine ⟨h.1, ?_⟩
  rcases h.2 with h0 | ⟨r, cap, cur, hv, hr, hh, t⟩
  · exact .inl h0
  · refine .inr ⟨r, cap, cur, hv, hr, ?_, t⟩
    rw [heap_setCell_other w ⟨g, j, none⟩ r x (by show r ≠ g; omega)]
    exact hh
theorem infoV : ∃ i, Tryd.prog.info? 57 = some i ∧ i.zero = some (vlOf vz) ∧ i.size = 4 ∧ i.bytes = 40 :=
  ⟨(Tryd.prog.info? 57).get (by kernel_rfl), by kernel_rfl, by kernel_rfl, by kernel_rfl, by kernel_rfl⟩
theorem vcls_one (L : List VV) : ∀ u ∈ vcls L, u.oneCell' = true := by
  intro u hu
  obtain ⟨v, _, h⟩ := List.mem_flatMap.1 hu
  simp only [vcl, List.mem_cons, List.not_mem_nil, or_false] at h
  rcases h with rfl | rfl | rfl | rfl <;> rfl
theorem run_appv (w : World) (B : Nat) (ty : TypeId) (v : Value) (L : List VV) (ho : OwnV w B v L) (A : Option Addr) (m c : Nat) (M : List VV) (hm : M.length = m) (hb : Vals w A M) (hc : A = none → c = 0)
    (hlen : L.length + m ≤ 1000000) (hB : B ≤ w.heap.size) :
    ∃ v' w', (Builtin.append_ #[32, 32] ty #[v, .slice A m c]).run Tryd.prog w = .ok v' w' ∧ OwnV w' B v' (L ++ M) ∧ Below B w w' := by
  obtain ⟨i, hi, hz, hs, hy⟩ := infoV
  rcases A with _ | ad
  · obtain rfl := hc rfl
    have hl : M = [] := by
      rcases M with _ | ⟨x, M⟩
      · rfl
      · obtain ⟨b, off, h, _⟩ := hb 0 (by simp)
        cases h
    subst hl
    subst hm
    exact ⟨v, w, run_append_owned_none (P := Tryd.prog) (w := w) B 32 ty 57 i 4 Tryd.underlying32 hi v _ _ ho, by rw [List.append_nil]; exact ho, Below.refl _ _⟩
  · obtain ⟨v', w', h1, h2, h3, _⟩ := run_append_own (P := Tryd.prog) w B 32 ty 57 i (vlOf vz) 4 40 Tryd.underlying32 hi hz hs hy rfl (by omega) v L.length (vcls L) ho ad m c (vcls M)
      (by rw [vcls_len, hm])
      (fun j u hj => by
        have hjl : j < M.length * 4 := by
          rcases Nat.lt_or_ge j (vcls M).length with h | h
          · rwa [vcls_len] at h
          · rw [List.getElem?_eq_none h] at hj; cases hj
        obtain ⟨b, off, h, c0, c1, c2, c3⟩ := hb (j / 4) (by omega)
        injection h with h
        subst h
        rw [show j = j / 4 * 4 + j % 4 by omega, vcls_get M (j / 4) (by omega) (j % 4) (by omega)] at hj
        rw [add_plain, show off + j = off + j / 4 * 4 + j % 4 by omega]
        have h4 : j % 4 < 4 := by omega
        generalize j % 4 = p at hj h4
        rcases p with _ | _ | _ | _ | p
        · rw [Nat.add_zero, c0]; exact hj
        · rw [c1]; exact hj
        · rw [c2]; exact hj
        · rw [c3]; exact hj
        · omega)
      (vcls_one M)
      (by unfold maxLen; omega) (by omega) hB
    refine ⟨v', w', h1, ?_, (Below.refl _ _).grown h3 hB (fun k hk => (World.ownsRow.lt ho k hk).1)⟩
    have : (L ++ M).length = L.length + m := by rw [List.length_append, hm]
    unfold OwnV
    rw [this, vcls_app]
    exact h2
theorem wp_appv1 {o : Oper} {a : Act} {K : Act → World → Prop} {Q : Exit → Act → World → Prop} (s x : Operand) (w : World)
    (hop : o.op = .call { callee := .builtin .append, args := #[s, x], argTypes := #[32, 32] })
    (B : Nat) (v : Value) (L : List VV) (hs : a.eval s = v) (ho : OwnV w B v L) (A : Option Addr) (m c : Nat) (M : List VV) (hx : a.eval x = .slice A m c) (hm : M.length = m) (hb : Vals w A M) (hc : A = none → c = 0)
    (k : Nat) (hk : (L ++ M).length = k) (hlen : k ≤ 1000000) (hB : B ≤ w.heap.size)
    (h : ∀ A' c' w', OwnV w' B (.slice A' k c') (L ++ M) → Below B w w' → K (a.put o.dst (.slice A' k c')) w') : Oper.wp Tryd.prog o a w K Q := by
  have hlen2 : L.length + m ≤ 1000000 := by rw [List.length_append] at hk; omega
  obtain ⟨v', w', hrun, h2, h3⟩ := run_appv w B o.type v L ho A m c M hm hb hc hlen2 hB
  obtain ⟨A', c', rfl, hby⟩ := h2.form
  rw [hk] at h2 hrun
  unfold Oper.wp
  simp [execOp, hop, resolve, invoke, builtin, hs, hx, hrun, Result.andThen]
  exact h A' c' w' h2 h3
theorem wp_appv {ops : Array Oper} {rest : List Oper} {o : Oper} {a : Act} {Q : Exit → Act → World → Prop} (s x : Operand) (w : World) (hgd : o.guard = none)
    (hop : o.op = .call { callee := .builtin .append, args := #[s, x], argTypes := #[32, 32] })
    (B : Nat) (v : Value) (L : List VV) (hs : a.eval s = v) (ho : OwnV w B v L) (A : Option Addr) (m c : Nat) (M : List VV) (hx : a.eval x = .slice A m c) (hm : M.length = m) (hb : Vals w A M) (hc : A = none → c = 0)
    (k : Nat) (hk : (L ++ M).length = k) (hlen : k ≤ 1000000) (hB : B ≤ w.heap.size)
    (h : ∀ A' c' w', OwnV w' B (.slice A' k c') (L ++ M) → Below B w w' → wpList Tryd.prog ops Q rest (a.put o.dst (.slice A' k c')) w') : wpList Tryd.prog ops Q (o :: rest) a w := by
  refine wpList_plain hgd fun K hK => ?_
  exact wp_appv1 s x w hop B v L hs ho A m c M hx hm hb hc k hk hlen hB fun A' c' w' h2 h3 => hK _ _ (h A' c' w' h2 h3)
theorem step_appv {ops : Array Oper} {o : Oper} {a : Act} {K : Act → World → Prop} {Q : Exit → Act → World → Prop} {E : Prop} (w : World) (hgd : o.guard = none) (s x : Operand)
    (hop : o.op = .call { callee := .builtin .append, args := #[s, x], argTypes := #[32, 32] })
    (B : Nat) (v : Value) (L : List VV) (hs : a.eval s = v) (ho : OwnV w B v L) (A : Option Addr) (m c : Nat) (M : List VV) (hx : a.eval x = .slice A m c) (hm : M.length = m) (hb : Vals w A M) (hc : A = none → c = 0)
    (k : Nat) (hk : (L ++ M).length = k) (hlen : k ≤ 1000000) (hB : B ≤ w.heap.size)
    (h : ∀ A' c' w', OwnV w' B (.slice A' k c') (L ++ M) → Below B w w' → K (a.put o.dst (.slice A' k c')) w') :
    if Region.wanted o (yielded ops a.tmps) = true then Oper.wp Tryd.prog o a w K Q else E := by
  have hw : Region.wanted o (yielded ops a.tmps) = true := by simp [Region.wanted, hgd]
  rw [if_pos hw]
  exact wp_appv1 s x w hop B v L hs ho A m c M hx hm hb hc k hk hlen hB h
/- one value in a block of its own -/
theorem Vals.one (w : World) (v : VV) : Vals (w.alloc (.cells #[.int .u8 v.1, .int .i64 v.2.1, .float .f64 v.2.2.1, .string v.2.2.2] 57)) (some ⟨w.heap.size, 0, none⟩) [v] := fun i hi => by
  have : i = 0 := by simpa using hi
  subst this
  refine ⟨w.heap.size, 0, rfl, ?_, ?_, ?_, ?_⟩ <;> simp [go_sem]
end Go.Proofs.YtiddpoihhfphmaaDoor
