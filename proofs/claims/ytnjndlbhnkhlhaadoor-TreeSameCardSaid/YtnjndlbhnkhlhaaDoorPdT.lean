/- Questions and their tests: what stands in memory, rows of tests, and of one's own; the table. -/
import Derived.Test.YtnjndlbhnkhlhaaDoorEvRow
namespace Go.Proofs.YtnjndlbhnkhlhaaDoor
open Go Go.RowKit Pk Rl
set_option maxRecDepth 20000

abbrev TT := Int × Int × VV
abbrev tz : TT := (0, 0, vz)
abbrev tOf (t : TT) : Value := .agg #[.int .u8 t.1, .int .u8 t.2.1, .int .u8 t.2.2.1, .int .i64 t.2.2.2.1, .float .f64 t.2.2.2.2.1, .string t.2.2.2.2.2]
abbrev tobj (t : TT) : Obj := .cells #[.int .u8 t.1, .int .u8 t.2.1, .int .u8 t.2.2.1, .int .i64 t.2.2.2.1, .float .f64 t.2.2.2.2.1, .string t.2.2.2.2.2] 53
def tcl (t : TT) : List Value := [.int .u8 t.1, .int .u8 t.2.1, .int .u8 t.2.2.1, .int .i64 t.2.2.2.1, .float .f64 t.2.2.2.2.1, .string t.2.2.2.2.2]
def tcls (L : List TT) : List Value := L.flatMap tcl
theorem tcls_len (L : List TT) : (tcls L).length = L.length * 6 := by
  induction L with
  | nil => rfl
  | cons v L ih => show (tcl v ++ tcls L).length = _; rw [List.length_append, ih, List.length_cons]; simp [tcl]; omega
theorem tcls_app (L M : List TT) : tcls (L ++ M) = tcls L ++ tcls M := by unfold tcls; rw [List.flatMap_append]
theorem tcls_get (L : List TT) (i : Nat) (hi : i < L.length) (j : Nat) (hj : j < 6) : (tcls L)[i * 6 + j]? = (tcl (L.getD i tz))[j]? := by
  induction L generalizing i with
  | nil => simp at hi
  | cons v L ih =>
    show (tcl v ++ tcls L)[i * 6 + j]? = _
    have h4 : (tcl v).length = 6 := rfl
    rcases i with _ | i
    · rw [List.getElem?_append_left (by omega)]; simp
    · rw [List.getElem?_append_right (by omega), h4, show (i + 1) * 6 + j - 6 = i * 6 + j by omega, ih i (by simpa using hi)]; simp
/- a test that a machine can hold -/
structure Okt (t : TT) : Prop where
  f0 : 0 ≤ t.1
  f1 : t.1 < 256
  o0 : 0 ≤ t.2.1
  o1 : t.2.1 < 256
  v : Okv t.2.2
def Att (w : World) (b o : Nat) (t : TT) : Prop :=
  w.cell? ⟨b, o, none⟩ = some (.int .u8 t.1) ∧ w.cell? ⟨b, o + 1, none⟩ = some (.int .u8 t.2.1) ∧ w.cell? ⟨b, o + 2, none⟩ = some (.int .u8 t.2.2.1) ∧ w.cell? ⟨b, o + 3, none⟩ = some (.int .i64 t.2.2.2.1) ∧ w.cell? ⟨b, o + 4, none⟩ = some (.float .f64 t.2.2.2.2.1) ∧ w.cell? ⟨b, o + 5, none⟩ = some (.string t.2.2.2.2.2)
def Tsts (w : World) (a : Option Addr) (L : List TT) : Prop := ∀ i, i < L.length → ∃ b off, a = some ⟨b, off, none⟩ ∧ Att w b (off + i * 6) (L.getD i tz)
theorem Att.below {w w' : World} {b o : Nat} {v : TT} (h : Att w b o v) (hb : Below w.heap.size w w') : Att w' b o v := by
  obtain ⟨h0, h1, h2, h3, h4, h5⟩ := h
  refine ⟨?_, ?_, ?_, ?_, ?_, ?_⟩
  · rw [hb.cell (World.block_lt_of_cell? _ _ h0)]; exact h0
  · rw [hb.cell (World.block_lt_of_cell? _ _ h1)]; exact h1
  · rw [hb.cell (World.block_lt_of_cell? _ _ h2)]; exact h2
  · rw [hb.cell (World.block_lt_of_cell? _ _ h3)]; exact h3
  · rw [hb.cell (World.block_lt_of_cell? _ _ h4)]; exact h4
  · rw [hb.cell (World.block_lt_of_cell? _ _ h5)]; exact h5
theorem Tsts.below {w w' : World} {a : Option Addr} {L : List TT} (h : Tsts w a L) (hb : Below w.heap.size w w') : Tsts w' a L := fun i hi => by
  obtain ⟨b, off, e, h⟩ := h i hi
  exact ⟨b, off, e, h.below hb⟩
theorem Tsts.nil (w : World) (a : Option Addr) : Tsts w a [] := fun i hi => absurd hi (by simp)
theorem tdrop_cons (L : List TT) (k : Nat) (h : k < L.length) : L.drop k = L.getD k tz :: L.drop (k + 1) := by
  rw [List.drop_eq_getElem_cons h, List.getD_eq_getElem?_getD, List.getElem?_eq_getElem h]; rfl
theorem tgetD_mem (L : List TT) (k : Nat) (h : k < L.length) : L.getD k tz ∈ L := by
  rw [List.getD_eq_getElem?_getD, List.getElem?_eq_getElem h]; exact List.getElem_mem _
theorem all_rangeT (L : List TT) (n : Nat) (hn : L.length = n) (p : TT → Bool) : (List.range n).all (fun j => p (L.getD j tz)) = L.all p := by
  subst hn
  induction L with
  | nil => rfl
  | cons v L ih =>
    rw [List.length_cons, List.range_succ_eq_map, List.all_cons, List.all_map, List.all_cons]
    congr 1
/- a question in a block of its own -/
abbrev pv (x : Bool) (t : Int) (a : Option Addr) (n c : Nat) : Value := .agg #[.bool x, .int .u8 t, .slice a n c]
abbrev pcells (x : Bool) (t : Int) (a : Option Addr) (n c : Nat) : Obj := .cells #[.bool x, .int .u8 t, .slice a n c] 37
def Pdt (w : World) (g : Nat) (x : Bool) (t : Int) (a : Option Addr) (n c : Nat) : Prop := w.cell? ⟨g, 0, none⟩ = some (.bool x) ∧ w.cell? ⟨g, 1, none⟩ = some (.int .u8 t) ∧ w.cell? ⟨g, 2, none⟩ = some (.slice a n c)
theorem Pdt.next {w w' : World} {g : Nat} {x : Bool} {t : Int} {a : Option Addr} {n c : Nat} (h : Pdt w g x t a n c) (hb : Below w.heap.size w w') : Pdt w' g x t a n c :=
  ⟨by rw [hb.cell (World.block_lt_of_cell? _ _ h.1)]; exact h.1, by rw [hb.cell (World.block_lt_of_cell? _ _ h.2.1)]; exact h.2.1, by rw [hb.cell (World.block_lt_of_cell? _ _ h.2.2)]; exact h.2.2⟩
theorem Pdt.alloc (w : World) (x : Bool) (t : Int) (a : Option Addr) (n c : Nat) : Pdt (w.alloc (pcells x t a n c)) w.heap.size x t a n c := by refine ⟨?_, ?_, ?_⟩ <;> simp [go_sem]
theorem Pdt.lt {w : World} {g : Nat} {x : Bool} {t : Int} {a : Option Addr} {n c : Nat} (h : Pdt w g x t a n c) : g < w.heap.size := World.block_lt_of_cell? _ _ h.1
/- the table of what Ops say -/
def says : List (List Bool) := [[false, false, false, false, false, false], [false, true, true, false, true, false], [false, true, true, true, false, true], [false, true, true, true, false, false], [false, true, true, true, true, false],
  [false, true, true, false, false, true], [false, true, true, false, true, true], [true, false, false, false, false, false], [false, false, true, false, false, false]]
def sy (o j : Nat) : Bool := (says.getD o []).getD j false
def Tab (w : World) : Prop := ∀ o j, o < 9 → j < 6 → w.cell? ⟨1, o * 6 + j, none⟩ = some (.bool (sy o j))
theorem Tab.below {w w' : World} (h : Tab w) (hb : Below w.heap.size w w') : Tab w' := fun o j ho hj => by
  have c := h o j ho hj
  rw [hb.cell (World.block_lt_of_cell? _ _ c)]
  exact c
def OwnT (w : World) (B : Nat) (v : Value) (L : List TT) : Prop := w.ownsRow B 53 6 v L.length (tcls L)
theorem OwnT.nil (w : World) (B : Nat) : OwnT w B (.slice none 0 0) [] := World.ownsRow_nil w B 53 6
theorem OwnT.empty (w : World) : OwnT (w.alloc (.cells #[] 53)) w.heap.size (.slice (some ⟨w.heap.size, 0, none⟩) 0 0) [] :=
  World.ownsRow_made w #[] 0 (Nat.le_refl _) (by decide) rfl
theorem OwnT.form {w : World} {B : Nat} {v : Value} {L : List TT} (h : OwnT w B v L) : ∃ A c, v = .slice A L.length c ∧ Tsts w A L := by
  rcases h.2 with ⟨rfl, h0⟩ | ⟨g, cap, cur, rfl, _⟩
  · have : L = [] := List.eq_nil_of_length_eq_zero h0
    subst this
    exact ⟨none, 0, rfl, Tsts.nil _ _⟩
  · refine ⟨_, _, rfl, fun i hi => ⟨g, 0, rfl, ?_⟩⟩
    have key : ∀ j u, j < 6 → (tcl (L.getD i tz))[j]? = some u → w.cell? ⟨g, 0 + i * 6 + j, none⟩ = some u := fun j u hj hu => by
      have := World.ownsRow.cells h (g := g) rfl (i * 6 + j) u (by rw [tcls_get L i hi j hj]; exact hu)
      rwa [add_plain, ← Nat.add_assoc] at this
    exact ⟨key 0 _ (by omega) rfl, key 1 _ (by omega) rfl, key 2 _ (by omega) rfl, key 3 _ (by omega) rfl, key 4 _ (by omega) rfl, key 5 _ (by omega) rfl⟩
theorem OwnT.vals {w : World} {B : Nat} {A : Option Addr} {k c : Nat} {L : List TT} (h : OwnT w B (.slice A k c) L) : Tsts w A L := by
  obtain ⟨A', c', e, hb⟩ := h.form
  injection e with e1 e2 e3
  subst e1
  exact hb
theorem OwnT.below {w w' : World} {B : Nat} {v : Value} {L : List TT} (h : OwnT w B v L) (hb : Below w.heap.size w w') : OwnT w' B v L := by
  refine ⟨h.1, ?_⟩
  rcases h.2 with h0 | ⟨g, cap, cur, hv, hg, hh, r⟩
  · exact .inl h0
  · refine .inr ⟨g, cap, cur, hv, hg, ?_, r⟩
    rw [hb.block g ?_]
    · exact hh
    · rcases Nat.lt_or_ge g w.heap.size with h1 | h1
      · exact h1
      · rw [Array.getElem?_eq_none h1] at hh; cases hh
theorem OwnT.mono {w : World} {B B' : Nat} {v : Value} {L : List TT} (h : OwnT w B v L) (hB : B' ≤ B) : OwnT w B' v L := by
  refine ⟨h.1, ?_⟩
  rcases h.2 with h0 | ⟨g, cap, cur, hv, hg, r⟩
  · exact .inl h0
  · exact .inr ⟨g, cap, cur, hv, Nat.le_trans hB hg, r⟩
theorem OwnT.capz {w : World} {B : Nat} {A : Option Addr} {k c : Nat} {L : List TT} (h : OwnT w B (.slice A k c) L) (hA : A = none) : c = 0 := by
  rcases h.2 with ⟨h', _⟩ | ⟨g, cap, cur, h', _⟩
  · injection h'
  · injection h' with e1 e2 e3
    rw [hA] at e1
    cases e1
/- a store into a block below the row's -/
theorem OwnT.setCell {w : World} {B : Nat} {v : Value} {L : List TT} (h : OwnT w B v L) (g j : Nat) (hg : g < B) (x : Value) : OwnT (w.setCell ⟨g, j, none⟩ x) B v L := by
  refine ⟨h.1, ?_⟩
  rcases h.2 with h0 | ⟨r, cap, cur, hv, hr, hh, t⟩
  · exact .inl h0
  · refine .inr ⟨r, cap, cur, hv, hr, ?_, t⟩
    rw [heap_setCell_other w ⟨g, j, none⟩ r x (by show r ≠ g; omega)]
    exact hh
theorem infoT : ∃ i, Tryd.prog.info? 53 = some i ∧ i.zero = some (tOf tz) ∧ i.size = 6 ∧ i.bytes = 48 :=
  ⟨(Tryd.prog.info? 53).get (by kernel_rfl), by kernel_rfl, by kernel_rfl, by kernel_rfl, by kernel_rfl⟩
theorem tcls_one (L : List TT) : ∀ u ∈ tcls L, u.oneCell' = true := by
  intro u hu
  obtain ⟨v, _, h⟩ := List.mem_flatMap.1 hu
  simp only [tcl, List.mem_cons, List.not_mem_nil, or_false] at h
  rcases h with rfl | rfl | rfl | rfl | rfl | rfl <;> rfl
theorem run_appt (w : World) (B : Nat) (ty : TypeId) (v : Value) (L : List TT) (ho : OwnT w B v L) (A : Option Addr) (m c : Nat) (M : List TT) (hm : M.length = m) (hb : Tsts w A M) (hc : A = none → c = 0)
    (hlen : L.length + m ≤ 1000000) (hB : B ≤ w.heap.size) :
    ∃ v' w', (Builtin.append_ #[35, 35] ty #[v, .slice A m c]).run Tryd.prog w = .ok v' w' ∧ OwnT w' B v' (L ++ M) ∧ Below B w w' := by
  obtain ⟨i, hi, hz, hs, hy⟩ := infoT
  rcases A with _ | ad
  · obtain rfl := hc rfl
    have hl : M = [] := by
      rcases M with _ | ⟨x, M⟩
      · rfl
      · obtain ⟨b, off, h, _⟩ := hb 0 (by simp)
        cases h
    subst hl
    subst hm
    exact ⟨v, w, run_append_owned_none (P := Tryd.prog) (w := w) B 35 ty 53 i 6 Tryd.underlying35 hi v _ _ ho, by rw [List.append_nil]; exact ho, Below.refl _ _⟩
  · obtain ⟨v', w', h1, h2, h3, _⟩ := run_append_own (P := Tryd.prog) w B 35 ty 53 i (tOf tz) 6 48 Tryd.underlying35 hi hz hs hy rfl (by omega) v L.length (tcls L) ho ad m c (tcls M)
      (by rw [tcls_len, hm])
      (fun j u hj => by
        have hjl : j < M.length * 6 := by
          rcases Nat.lt_or_ge j (tcls M).length with h | h
          · rwa [tcls_len] at h
          · rw [List.getElem?_eq_none h] at hj; cases hj
        obtain ⟨b, off, h, c0, c1, c2, c3, c4, c5⟩ := hb (j / 6) (by omega)
        injection h with h
        subst h
        rw [show j = j / 6 * 6 + j % 6 by omega, tcls_get M (j / 6) (by omega) (j % 6) (by omega)] at hj
        rw [add_plain, show off + j = off + j / 6 * 6 + j % 6 by omega]
        have h4 : j % 6 < 6 := by omega
        generalize j % 6 = p at hj h4
        rcases p with _ | _ | _ | _ | _ | _ | p
        · rw [Nat.add_zero, c0]; exact hj
        · rw [c1]; exact hj
        · rw [c2]; exact hj
        · rw [c3]; exact hj
        · rw [c4]; exact hj
        · rw [c5]; exact hj
        · omega)
      (tcls_one M)
      (by unfold maxLen; omega) (by omega) hB
    refine ⟨v', w', h1, ?_, (Below.refl _ _).grown h3 hB (fun k hk => (World.ownsRow.lt ho k hk).1)⟩
    have : (L ++ M).length = L.length + m := by rw [List.length_append, hm]
    unfold OwnT
    rw [this, tcls_app]
    exact h2
theorem wp_appt1 {o : Oper} {a : Act} {K : Act → World → Prop} {Q : Exit → Act → World → Prop} (s x : Operand) (w : World)
    (hop : o.op = .call { callee := .builtin .append, args := #[s, x], argTypes := #[35, 35] })
    (B : Nat) (v : Value) (L : List TT) (hs : a.eval s = v) (ho : OwnT w B v L) (A : Option Addr) (m c : Nat) (M : List TT) (hx : a.eval x = .slice A m c) (hm : M.length = m) (hb : Tsts w A M) (hc : A = none → c = 0)
    (k : Nat) (hk : (L ++ M).length = k) (hlen : k ≤ 1000000) (hB : B ≤ w.heap.size)
    (h : ∀ A' c' w', OwnT w' B (.slice A' k c') (L ++ M) → Below B w w' → K (a.put o.dst (.slice A' k c')) w') : Oper.wp Tryd.prog o a w K Q := by
  have hlen2 : L.length + m ≤ 1000000 := by rw [List.length_append] at hk; omega
  obtain ⟨v', w', hrun, h2, h3⟩ := run_appt w B o.type v L ho A m c M hm hb hc hlen2 hB
  obtain ⟨A', c', rfl, hby⟩ := h2.form
  rw [hk] at h2 hrun
  unfold Oper.wp
  simp [execOp, hop, resolve, invoke, builtin, hs, hx, hrun, Result.andThen]
  exact h A' c' w' h2 h3
theorem wp_appt {ops : Array Oper} {rest : List Oper} {o : Oper} {a : Act} {Q : Exit → Act → World → Prop} (s x : Operand) (w : World) (hgd : o.guard = none)
    (hop : o.op = .call { callee := .builtin .append, args := #[s, x], argTypes := #[35, 35] })
    (B : Nat) (v : Value) (L : List TT) (hs : a.eval s = v) (ho : OwnT w B v L) (A : Option Addr) (m c : Nat) (M : List TT) (hx : a.eval x = .slice A m c) (hm : M.length = m) (hb : Tsts w A M) (hc : A = none → c = 0)
    (k : Nat) (hk : (L ++ M).length = k) (hlen : k ≤ 1000000) (hB : B ≤ w.heap.size)
    (h : ∀ A' c' w', OwnT w' B (.slice A' k c') (L ++ M) → Below B w w' → wpList Tryd.prog ops Q rest (a.put o.dst (.slice A' k c')) w') : wpList Tryd.prog ops Q (o :: rest) a w := by
  refine wpList_plain hgd fun K hK => ?_
  exact wp_appt1 s x w hop B v L hs ho A m c M hx hm hb hc k hk hlen hB fun A' c' w' h2 h3 => hK _ _ (h A' c' w' h2 h3)
theorem step_appt {ops : Array Oper} {o : Oper} {a : Act} {K : Act → World → Prop} {Q : Exit → Act → World → Prop} {E : Prop} (w : World) (hgd : o.guard = none) (s x : Operand)
    (hop : o.op = .call { callee := .builtin .append, args := #[s, x], argTypes := #[35, 35] })
    (B : Nat) (v : Value) (L : List TT) (hs : a.eval s = v) (ho : OwnT w B v L) (A : Option Addr) (m c : Nat) (M : List TT) (hx : a.eval x = .slice A m c) (hm : M.length = m) (hb : Tsts w A M) (hc : A = none → c = 0)
    (k : Nat) (hk : (L ++ M).length = k) (hlen : k ≤ 1000000) (hB : B ≤ w.heap.size)
    (h : ∀ A' c' w', OwnT w' B (.slice A' k c') (L ++ M) → Below B w w' → K (a.put o.dst (.slice A' k c')) w') :
    if Region.wanted o (yielded ops a.tmps) = true then Oper.wp Tryd.prog o a w K Q else E := by
  have hw : Region.wanted o (yielded ops a.tmps) = true := by simp [Region.wanted, hgd]
  rw [if_pos hw]
  exact wp_appt1 s x w hop B v L hs ho A m c M hx hm hb hc k hk hlen hB h
theorem Tsts.one (w : World) (v : TT) : Tsts (w.alloc (tobj v)) (some ⟨w.heap.size, 0, none⟩) [v] := fun i hi => by
  have : i = 0 := by simpa using hi
  subst this
  refine ⟨w.heap.size, 0, rfl, ?_, ?_, ?_, ?_, ?_, ?_⟩ <;> simp [go_sem]
end Go.Proofs.YtnjndlbhnkhlhaaDoor
