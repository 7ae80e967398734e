/- Contracts, joined: PdT, PdS, PdM, PdE. -/
import Derived.Test.YtpnllbojifnopaaGreatDoorMC
import Derived.Deep.RegionHeld3
import Derived.BigQuiet
import Derived.Deep.QuietTactic
/- Questions and their tests: what stands in memory, rows of tests, and of one's own; the table. -/
namespace Go.Proofs.YtpnllbojifnopaaGreatDoor
open Go Go.RowKit Pk Rl
set_option maxRecDepth 20000

abbrev TT := Int × Int × VV
abbrev tz : TT := (0, 0, vz)
abbrev tOf (t : TT) : Value := .agg #[.int .u8 t.1, .int .u8 t.2.1, .int .u8 t.2.2.1, .int .i64 t.2.2.2.1, .float .f64 t.2.2.2.2.1, .string t.2.2.2.2.2]
abbrev tobj (t : TT) : Obj := .cells #[.int .u8 t.1, .int .u8 t.2.1, .int .u8 t.2.2.1, .int .i64 t.2.2.2.1, .float .f64 t.2.2.2.2.1, .string t.2.2.2.2.2] 171
def tcl (t : TT) : List Value := [.int .u8 t.1, .int .u8 t.2.1, .int .u8 t.2.2.1, .int .i64 t.2.2.2.1, .float .f64 t.2.2.2.2.1, .string t.2.2.2.2.2]
def tcls (L : List TT) : List Value := L.flatMap tcl
theorem tcls_len (L : List TT) : (tcls L).length = L.length * 6 := by
  induction L with
  | nil => rfl
  | cons v L ih => show (tcl v ++ tcls L).length = _; rw [List.length_append, ih, List.length_cons]; simp [tcl]; omega
theorem tcls_app (L M : List TT) : tcls (L ++ M) = tcls L ++ tcls M := by unfold tcls; rw [List.flatMap_append]
theorem tcls_get (L : List TT) (i : Nat) (hi : i < L.length) (j : Nat) (hj : j < 6) : (tcls L)[i * 6 + j]? = (tcl (L.getD i tz))[j]? := by
  induction L generalizing i with
  | nil => simp at hi
  | cons v L ih =>
    show (tcl v ++ tcls L)[i * 6 + j]? = _
    have h4 : (tcl v).length = 6 := rfl
    rcases i with _ | i
    · rw [List.getElem?_append_left (by omega)]; simp
    · rw [List.getElem?_append_right (by omega), h4, show (i + 1) * 6 + j - 6 = i * 6 + j by omega, ih i (by simpa using hi)]; simp
/- a test that a machine can hold -/
structure Okt (t : TT) : Prop where
  f0 : 0 ≤ t.1
  f1 : t.1 < 256
  o0 : 0 ≤ t.2.1
  o1 : t.2.1 < 256
  v : Okv t.2.2
def Att (w : World) (b o : Nat) (t : TT) : Prop :=
  w.cell? ⟨b, o, none⟩ = some (.int .u8 t.1) ∧ w.cell? ⟨b, o + 1, none⟩ = some (.int .u8 t.2.1) ∧ w.cell? ⟨b, o + 2, none⟩ = some (.int .u8 t.2.2.1) ∧ w.cell? ⟨b, o + 3, none⟩ = some (.int .i64 t.2.2.2.1) ∧ w.cell? ⟨b, o + 4, none⟩ = some (.float .f64 t.2.2.2.2.1) ∧ w.cell? ⟨b, o + 5, none⟩ = some (.string t.2.2.2.2.2)
def Tsts (w : World) (a : Option Addr) (L : List TT) : Prop := ∀ i, i < L.length → ∃ b off, a = some ⟨b, off, none⟩ ∧ Att w b (off + i * 6) (L.getD i tz)
theorem Att.below {w w' : World} {b o : Nat} {v : TT} (h : Att w b o v) (hb : Below w.heap.size w w') : Att w' b o v := by
  obtain ⟨h0, h1, h2, h3, h4, h5⟩ := h
  refine ⟨?_, ?_, ?_, ?_, ?_, ?_⟩
  · rw [hb.cell (World.block_lt_of_cell? _ _ h0)]; exact h0
  · rw [hb.cell (World.block_lt_of_cell? _ _ h1)]; exact h1
  · rw [hb.cell (World.block_lt_of_cell? _ _ h2)]; exact h2
  · rw [hb.cell (World.block_lt_of_cell? _ _ h3)]; exact h3
  · rw [hb.cell (World.block_lt_of_cell? _ _ h4)]; exact h4
  · rw [hb.cell (World.block_lt_of_cell? _ _ h5)]; exact h5
theorem Tsts.below {w w' : World} {a : Option Addr} {L : List TT} (h : Tsts w a L) (hb : Below w.heap.size w w') : Tsts w' a L := fun i hi => by
  obtain ⟨b, off, e, h⟩ := h i hi
  exact ⟨b, off, e, h.below hb⟩
theorem Tsts.nil (w : World) (a : Option Addr) : Tsts w a [] := fun i hi => absurd hi (by simp)
theorem tdrop_cons (L : List TT) (k : Nat) (h : k < L.length) : L.drop k = L.getD k tz :: L.drop (k + 1) := by
  rw [List.drop_eq_getElem_cons h, List.getD_eq_getElem?_getD, List.getElem?_eq_getElem h]; rfl
theorem tgetD_mem (L : List TT) (k : Nat) (h : k < L.length) : L.getD k tz ∈ L := by
  rw [List.getD_eq_getElem?_getD, List.getElem?_eq_getElem h]; exact List.getElem_mem _
theorem all_rangeT (L : List TT) (n : Nat) (hn : L.length = n) (p : TT → Bool) : (List.range n).all (fun j => p (L.getD j tz)) = L.all p := by
  subst hn
  induction L with
  | nil => rfl
  | cons v L ih =>
    rw [List.length_cons, List.range_succ_eq_map, List.all_cons, List.all_map, List.all_cons]
    congr 1
/- a question in a block of its own -/
abbrev pv (x : Bool) (t : Int) (a : Option Addr) (n c : Nat) : Value := .agg #[.bool x, .int .u8 t, .slice a n c]
abbrev pcells (x : Bool) (t : Int) (a : Option Addr) (n c : Nat) : Obj := .cells #[.bool x, .int .u8 t, .slice a n c] 45
def Pdt (w : World) (g : Nat) (x : Bool) (t : Int) (a : Option Addr) (n c : Nat) : Prop := w.cell? ⟨g, 0, none⟩ = some (.bool x) ∧ w.cell? ⟨g, 1, none⟩ = some (.int .u8 t) ∧ w.cell? ⟨g, 2, none⟩ = some (.slice a n c)
theorem Pdt.next {w w' : World} {g : Nat} {x : Bool} {t : Int} {a : Option Addr} {n c : Nat} (h : Pdt w g x t a n c) (hb : Below w.heap.size w w') : Pdt w' g x t a n c :=
  ⟨by rw [hb.cell (World.block_lt_of_cell? _ _ h.1)]; exact h.1, by rw [hb.cell (World.block_lt_of_cell? _ _ h.2.1)]; exact h.2.1, by rw [hb.cell (World.block_lt_of_cell? _ _ h.2.2)]; exact h.2.2⟩
theorem Pdt.alloc (w : World) (x : Bool) (t : Int) (a : Option Addr) (n c : Nat) : Pdt (w.alloc (pcells x t a n c)) w.heap.size x t a n c := by refine ⟨?_, ?_, ?_⟩ <;> simp [go_sem]
theorem Pdt.lt {w : World} {g : Nat} {x : Bool} {t : Int} {a : Option Addr} {n c : Nat} (h : Pdt w g x t a n c) : g < w.heap.size := World.block_lt_of_cell? _ _ h.1
/- the table of what Ops say -/
def says : List (List Bool) := [[false, false, false, false, false, false], [false, true, true, false, true, false], [false, true, true, true, false, true], [false, true, true, true, false, false], [false, true, true, true, true, false],
  [false, true, true, false, false, true], [false, true, true, false, true, true], [true, false, false, false, false, false], [false, false, true, false, false, false]]
def sy (o j : Nat) : Bool := (says.getD o []).getD j false
def Tab (w : World) : Prop := ∀ o j, o < 9 → j < 6 → w.cell? ⟨1, o * 6 + j, none⟩ = some (.bool (sy o j))
theorem Tab.below {w w' : World} (h : Tab w) (hb : Below w.heap.size w w') : Tab w' := fun o j ho hj => by
  have c := h o j ho hj
  rw [hb.cell (World.block_lt_of_cell? _ _ c)]
  exact c
def OwnT (w : World) (B : Nat) (v : Value) (L : List TT) : Prop := w.ownsRow B 171 6 v L.length (tcls L)
theorem OwnT.nil (w : World) (B : Nat) : OwnT w B (.slice none 0 0) [] := World.ownsRow_nil w B 171 6
theorem OwnT.empty (w : World) : OwnT (w.alloc (.cells #[] 171)) w.heap.size (.slice (some ⟨w.heap.size, 0, none⟩) 0 0) [] :=
  World.ownsRow_made w #[] 0 (Nat.le_refl _) (by decide) rfl
theorem OwnT.form {w : World} {B : Nat} {v : Value} {L : List TT} (h : OwnT w B v L) : ∃ A c, v = .slice A L.length c ∧ Tsts w A L := by
  rcases h.2 with ⟨rfl, h0⟩ | ⟨g, cap, cur, rfl, _⟩
  · have : L = [] := List.eq_nil_of_length_eq_zero h0
    subst this
    exact ⟨none, 0, rfl, Tsts.nil _ _⟩
  · refine ⟨_, _, rfl, fun i hi => ⟨g, 0, rfl, ?_⟩⟩
    have key : ∀ j u, j < 6 → (tcl (L.getD i tz))[j]? = some u → w.cell? ⟨g, 0 + i * 6 + j, none⟩ = some u := fun j u hj hu => by
      have := World.ownsRow.cells h (g := g) rfl (i * 6 + j) u (by rw [tcls_get L i hi j hj]; exact hu)
      rwa [add_plain, ← Nat.add_assoc] at this
    exact ⟨key 0 _ (by omega) rfl, key 1 _ (by omega) rfl, key 2 _ (by omega) rfl, key 3 _ (by omega) rfl, key 4 _ (by omega) rfl, key 5 _ (by omega) rfl⟩
theorem OwnT.vals {w : World} {B : Nat} {A : Option Addr} {k c : Nat} {L : List TT} (h : OwnT w B (.slice A k c) L) : Tsts w A L := by
  obtain ⟨A', c', e, hb⟩ := h.form
  injection e with e1 e2 e3
  subst e1
  exact hb
theorem OwnT.below {w w' : World} {B : Nat} {v : Value} {L : List TT} (h : OwnT w B v L) (hb : Below w.heap.size w w') : OwnT w' B v L := by
  refine ⟨h.1, ?_⟩
  rcases h.2 with h0 | ⟨g, cap, cur, hv, hg, hh, r⟩
  · exact .inl h0
  · refine .inr ⟨g, cap, cur, hv, hg, ?_, r⟩
    rw [hb.block g ?_]
    · exact hh
    · rcases Nat.lt_or_ge g w.heap.size with h1 | h1
      · exact h1
      · rw [Array.getElem?_eq_none h1] at hh; cases hh
theorem OwnT.mono {w : World} {B B' : Nat} {v : Value} {L : List TT} (h : OwnT w B v L) (hB : B' ≤ B) : OwnT w B' v L := by
  refine ⟨h.1, ?_⟩
  rcases h.2 with h0 | ⟨g, cap, cur, hv, hg, r⟩
  · exact .inl h0
  · exact .inr ⟨g, cap, cur, hv, Nat.le_trans hB hg, r⟩
theorem OwnT.capz {w : World} {B : Nat} {A : Option Addr} {k c : Nat} {L : List TT} (h : OwnT w B (.slice A k c) L) (hA : A = none) : c = 0 := by
  rcases h.2 with ⟨h', _⟩ | ⟨g, cap, cur, h', _⟩
  · injection h'
  · injection h' with e1 e2 e3
    rw [hA] at e1
    cases e1
/- a store into a block below the row's -/
theorem OwnT.setCell {w : World} {B : Nat} {v : Value} {L : List TT} (h : OwnT w B v L) (g j : Nat) (hg : g < B) (x : Value) : OwnT (w.setCell ⟨g, j, none⟩ x) B v L := by
  refine ⟨h.1, ?_⟩
  rcases h.2 with h0 | ⟨r, cap, cur, hv, hr, hh, t⟩
  · exact .inl h0
  · refine .inr ⟨r, cap, cur, hv, hr, ?_, t⟩
    rw [heap_setCell_other w ⟨g, j, none⟩ r x (by show r ≠ g; omega)]
    exact hh
theorem infoT : ∃ i, Tryz.prog.info? 171 = some i ∧ i.zero = some (tOf tz) ∧ i.size = 6 ∧ i.bytes = 48 :=
  ⟨(Tryz.prog.info? 171).get (by kernel_rfl), by kernel_rfl, by kernel_rfl, by kernel_rfl, by kernel_rfl⟩
theorem tcls_one (L : List TT) : ∀ u ∈ tcls L, u.oneCell' = true := by
  intro u hu
  obtain ⟨v, _, h⟩ := List.mem_flatMap.1 hu
  simp only [tcl, List.mem_cons, List.not_mem_nil, or_false] at h
  rcases h with rfl | rfl | rfl | rfl | rfl | rfl <;> rfl
theorem run_appt (w : World) (B : Nat) (ty : TypeId) (v : Value) (L : List TT) (ho : OwnT w B v L) (A : Option Addr) (m c : Nat) (M : List TT) (hm : M.length = m) (hb : Tsts w A M) (hc : A = none → c = 0)
    (hlen : L.length + m ≤ 1000000) (hB : B ≤ w.heap.size) :
    ∃ v' w', (Builtin.append_ #[43, 43] ty #[v, .slice A m c]).run Tryz.prog w = .ok v' w' ∧ OwnT w' B v' (L ++ M) ∧ Below B w w' := by
  obtain ⟨i, hi, hz, hs, hy⟩ := infoT
  rcases A with _ | ad
  · obtain rfl := hc rfl
    have hl : M = [] := by
      rcases M with _ | ⟨x, M⟩
      · rfl
      · obtain ⟨b, off, h, _⟩ := hb 0 (by simp)
        cases h
    subst hl
    subst hm
    exact ⟨v, w, run_append_owned_none (P := Tryz.prog) (w := w) B 43 ty 171 i 6 Tryz.underlying43 hi v _ _ ho, by rw [List.append_nil]; exact ho, Below.refl _ _⟩
  · obtain ⟨v', w', h1, h2, h3, _⟩ := run_append_own (P := Tryz.prog) w B 43 ty 171 i (tOf tz) 6 48 Tryz.underlying43 hi hz hs hy rfl (by omega) v L.length (tcls L) ho ad m c (tcls M)
      (by rw [tcls_len, hm])
      (fun j u hj => by
        have hjl : j < M.length * 6 := by
          rcases Nat.lt_or_ge j (tcls M).length with h | h
          · rwa [tcls_len] at h
          · rw [List.getElem?_eq_none h] at hj; cases hj
        obtain ⟨b, off, h, c0, c1, c2, c3, c4, c5⟩ := hb (j / 6) (by omega)
        injection h with h
        subst h
        rw [show j = j / 6 * 6 + j % 6 by omega, tcls_get M (j / 6) (by omega) (j % 6) (by omega)] at hj
        rw [add_plain, show off + j = off + j / 6 * 6 + j % 6 by omega]
        have h4 : j % 6 < 6 := by omega
        generalize j % 6 = p at hj h4
        rcases p with _ | _ | _ | _ | _ | _ | p
        · rw [Nat.add_zero, c0]; exact hj
        · rw [c1]; exact hj
        · rw [c2]; exact hj
        · rw [c3]; exact hj
        · rw [c4]; exact hj
        · rw [c5]; exact hj
        · omega)
      (tcls_one M)
      (by unfold maxLen; omega) (by omega) hB
    refine ⟨v', w', h1, ?_, (Below.refl _ _).grown h3 hB (fun k hk => (World.ownsRow.lt ho k hk).1)⟩
    have : (L ++ M).length = L.length + m := by rw [List.length_append, hm]
    unfold OwnT
    rw [this, tcls_app]
    exact h2
theorem wp_appt1 {o : Oper} {a : Act} {K : Act → World → Prop} {Q : Exit → Act → World → Prop} (s x : Operand) (w : World)
    (hop : o.op = .call { callee := .builtin .append, args := #[s, x], argTypes := #[43, 43] })
    (B : Nat) (v : Value) (L : List TT) (hs : a.eval s = v) (ho : OwnT w B v L) (A : Option Addr) (m c : Nat) (M : List TT) (hx : a.eval x = .slice A m c) (hm : M.length = m) (hb : Tsts w A M) (hc : A = none → c = 0)
    (k : Nat) (hk : (L ++ M).length = k) (hlen : k ≤ 1000000) (hB : B ≤ w.heap.size)
    (h : ∀ A' c' w', OwnT w' B (.slice A' k c') (L ++ M) → Below B w w' → K (a.put o.dst (.slice A' k c')) w') : Oper.wp Tryz.prog o a w K Q := by
  have hlen2 : L.length + m ≤ 1000000 := by rw [List.length_append] at hk; omega
  obtain ⟨v', w', hrun, h2, h3⟩ := run_appt w B o.type v L ho A m c M hm hb hc hlen2 hB
  obtain ⟨A', c', rfl, hby⟩ := h2.form
  rw [hk] at h2 hrun
  unfold Oper.wp
  simp [execOp, hop, resolve, invoke, builtin, hs, hx, hrun, Result.andThen]
  exact h A' c' w' h2 h3
theorem wp_appt {ops : Array Oper} {rest : List Oper} {o : Oper} {a : Act} {Q : Exit → Act → World → Prop} (s x : Operand) (w : World) (hgd : o.guard = none)
    (hop : o.op = .call { callee := .builtin .append, args := #[s, x], argTypes := #[43, 43] })
    (B : Nat) (v : Value) (L : List TT) (hs : a.eval s = v) (ho : OwnT w B v L) (A : Option Addr) (m c : Nat) (M : List TT) (hx : a.eval x = .slice A m c) (hm : M.length = m) (hb : Tsts w A M) (hc : A = none → c = 0)
    (k : Nat) (hk : (L ++ M).length = k) (hlen : k ≤ 1000000) (hB : B ≤ w.heap.size)
    (h : ∀ A' c' w', OwnT w' B (.slice A' k c') (L ++ M) → Below B w w' → wpList Tryz.prog ops Q rest (a.put o.dst (.slice A' k c')) w') : wpList Tryz.prog ops Q (o :: rest) a w := by
  refine wpList_plain hgd fun K hK => ?_
  exact wp_appt1 s x w hop B v L hs ho A m c M hx hm hb hc k hk hlen hB fun A' c' w' h2 h3 => hK _ _ (h A' c' w' h2 h3)
theorem step_appt {ops : Array Oper} {o : Oper} {a : Act} {K : Act → World → Prop} {Q : Exit → Act → World → Prop} {E : Prop} (w : World) (hgd : o.guard = none) (s x : Operand)
    (hop : o.op = .call { callee := .builtin .append, args := #[s, x], argTypes := #[43, 43] })
    (B : Nat) (v : Value) (L : List TT) (hs : a.eval s = v) (ho : OwnT w B v L) (A : Option Addr) (m c : Nat) (M : List TT) (hx : a.eval x = .slice A m c) (hm : M.length = m) (hb : Tsts w A M) (hc : A = none → c = 0)
    (k : Nat) (hk : (L ++ M).length = k) (hlen : k ≤ 1000000) (hB : B ≤ w.heap.size)
    (h : ∀ A' c' w', OwnT w' B (.slice A' k c') (L ++ M) → Below B w w' → K (a.put o.dst (.slice A' k c')) w') :
    if Region.wanted o (yielded ops a.tmps) = true then Oper.wp Tryz.prog o a w K Q else E := by
  have hw : Region.wanted o (yielded ops a.tmps) = true := by simp [Region.wanted, hgd]
  rw [if_pos hw]
  exact wp_appt1 s x w hop B v L hs ho A m c M hx hm hb hc k hk hlen hB h
theorem Tsts.one (w : World) (v : TT) : Tsts (w.alloc (tobj v)) (some ⟨w.heap.size, 0, none⟩) [v] := fun i hi => by
  have : i = 0 := by simpa using hi
  subst this
  refine ⟨w.heap.size, 0, rfl, ?_, ?_, ?_, ?_, ?_, ?_⟩ <;> simp [go_sem]
end Go.Proofs.YtpnllbojifnopaaGreatDoor

/- Whether a test may be. -/
namespace Go.Proofs.YtpnllbojifnopaaGreatDoor
open Go Go.RowKit Pk Rl
set_option maxRecDepth 20000

def kok (o : Nat) (k : Int) : Bool := if o = 7 then decide (k = 0) else if o = 8 then decide (k = 3) else decide (k ≠ 0)
def rgt (t : TT) : Bool := decide (1 ≤ t.2.1 ∧ t.2.1 ≤ 8) && mayv t.2.2 && kok t.2.1.toNat t.2.2.1
theorem kok_table (o : Nat) (k : Int) (ho : o < 9) : (if k = 0 then sy o 0 else if k = 3 then sy o 2 else sy o 1) = (decide (1 ≤ o ∧ o ≤ 8) && kok o k) := by
  obtain rfl | rfl | rfl | rfl | rfl | rfl | rfl | rfl | rfl : o = 0 ∨ o = 1 ∨ o = 2 ∨ o = 3 ∨ o = 4 ∨ o = 5 ∨ o = 6 ∨ o = 7 ∨ o = 8 := by omega
  all_goals
    by_cases k0 : k = 0
    · subst k0; decide
    · by_cases k3 : k = 3
      · subst k3; decide
      · simp [k0, k3, kok, sy, says]

structure Tbx (w W : World) (g : Nat) (t : TT) : Prop where
  at_ : Att W g 0 t
  bel : Below w.heap.size w W
theorem Tbx.start (w : World) (t : TT) : Tbx w (w.alloc (tobj t)) w.heap.size t := by
  refine ⟨⟨?_, ?_, ?_, ?_, ?_, ?_⟩, below_alloc w _⟩ <;> simp [go_sem]
theorem Tbx.next {w W W' : World} {g : Nat} {t : TT} (h : Tbx w W g t) (hb : Below W.heap.size W W') : Tbx w W' g t := ⟨h.at_.below hb, below_go h.bel hb⟩

set_option maxHeartbeats 1000000 in
theorem mayTest_walk (f : Int) (o : Nat) (k n : Int) (r : Nat) (s : ByteArray) (m s0 s1 s2 s3 s4 s5 : Bool) (ho : o < 9) (w : World) (hT : Tab w)
    (e0 : sy o 0 = s0) (e1 : sy o 1 = s1) (e2 : sy o 2 = s2) (e3 : sy o 3 = s3) (e4 : sy o 4 = s4) (e5 : sy o 5 = s5)
    (M : Hid (∀ w, Calls Tryz.prog 98 #[vl k n r s] w fun e w' => e = .returned (.bool m) ∧ Below w.heap.size w w')) :
    Calls Tryz.prog 135 #[tOf (f, (o : Int), k, n, r, s)] w fun e w' => e = .returned (.bool (m && (if k = 0 then s0 else if k = 3 then s2 else s1))) ∧ Below w.heap.size w w' := by
  have B0 := Lib.hid (Tbx.start w (f, (o : Int), k, n, r, s))
  have T0 := Lib.hid (hT.below (below_alloc w (tobj (f, (o : Int), k, n, r, s))))
  clear hT
  obtain ⟨R, hR⟩ : ∃ R, (m && (if k = 0 then s0 else if k = 3 then s2 else s1)) = R := ⟨_, rfl⟩
  rw [hR]
  have HR := Lib.hid hR
  clear hR
  go_enter Tryz.func135, Tryz.ntmps135
  go_wp2_with fail
  refine (M.out _).mono ?_
  rintro e w2 ⟨rfl, hb⟩
  have B2 := Lib.hid (B0.out.next hb)
  have T2 := Lib.hid (T0.out.below hb)
  clear hb M B0 T0
  obtain ⟨c0, c1, c2, c3, c4, c5⟩ := B2.out.at_
  have z0 : w.heap.size < w2.heap.size := World.block_lt_of_cell? _ _ c0
  have d0 := T2.out o 0 ho (by omega)
  have d1 := T2.out o 1 ho (by omega)
  have d2 := T2.out o 2 ho (by omega)
  have d3 := T2.out o 3 ho (by omega)
  have d4 := T2.out o 4 ho (by omega)
  have d5 := T2.out o 5 ho (by omega)
  rw [e0, Nat.add_zero] at d0
  rw [e1] at d1
  rw [e2] at d2
  rw [e3] at d3
  rw [e4] at d4
  rw [e5] at d5
  clear e0 e1 e2 e3 e4 e5 T2
  cases m
  · go_wp2_with fail
    go_ret
    exact ⟨ret_bool (by rw [← HR.out]; rfl), B2.out.bel⟩
  · rw [Bool.true_and] at HR
    have BB := Lib.hid (B2.out.bel)
    have hle : w.heap.size ≤ w2.heap.size := by omega
    by_cases k0 : k = 0
    · subst k0
      rw [if_pos rfl] at HR
      go_wp2_with fail
      go_ret
      exact ⟨ret_bool HR.out, BB.out.alloc hle _⟩
    · rw [if_neg k0] at HR
      have q0 : (k == 0) = false := by simpa using k0
      by_cases k3 : k = 3
      · subst k3
        rw [if_pos rfl] at HR
        go_wp2_with fail
        go_ret
        exact ⟨ret_bool HR.out, BB.out.alloc hle _⟩
      · rw [if_neg k3] at HR
        have q3 : (k == 3) = false := by simpa using k3
        go_wp2_with fail
        go_ret
        exact ⟨ret_bool HR.out, BB.out.alloc hle _⟩
set_option maxHeartbeats 1000000 in
theorem mayTest_big (f : Int) (o : Nat) (k n : Int) (r : Nat) (s : ByteArray) (ho : ¬ o < 9) (h256 : o < 256) (w : World) :
    Calls Tryz.prog 135 #[tOf (f, (o : Int), k, n, r, s)] w fun e w' => e = .returned (.bool false) ∧ Below w.heap.size w w' := by
  have B0 := Lib.hid (below_alloc w (tobj (f, (o : Int), k, n, r, s)))
  have t2 : (9 : Int) ≤ (o : Int) := by omega
  clear ho
  go_enter Tryz.func135, Tryz.ntmps135
  go_wp2_with fail
  go_ret
  exact ⟨rfl, B0.out⟩
theorem rgt_low (f : Int) (o : Nat) (v : VV) (ho : o < 9) : rgt (f, (o : Int), v) = (mayv v && (if v.1 = 0 then sy o 0 else if v.1 = 3 then sy o 2 else sy o 1)) := by
  rw [kok_table o v.1 ho]
  unfold rgt
  simp only [Int.toNat_natCast]
  have : (decide (1 ≤ (o : Int) ∧ (o : Int) ≤ 8)) = decide (1 ≤ o ∧ o ≤ 8) := by rw [Bool.eq_iff_iff]; simp; omega
  rw [this]
  cases decide (1 ≤ o ∧ o ≤ 8) <;> cases mayv v <;> simp
theorem rgt_big (f : Int) (o : Nat) (v : VV) (ho : ¬ o < 9) : rgt (f, (o : Int), v) = false := by
  unfold rgt
  have : (decide (1 ≤ (o : Int) ∧ (o : Int) ≤ 8)) = false := by simp; omega
  rw [this]; rfl
theorem mayTest_any (t : TT) (h : Okt t) (w : World) (hT : Tab w) :
    Calls Tryz.prog 135 #[tOf t] w fun e w' => e = .returned (.bool (rgt t)) ∧ Below w.heap.size w w' := by
  obtain ⟨f, o, k, n, r, s⟩ := t
  obtain ⟨q, rfl⟩ : ∃ q : Nat, o = (q : Int) := ⟨o.toNat, by have : 0 ≤ o := h.o0; omega⟩
  by_cases ho : q < 9
  · rw [rgt_low f q (k, n, r, s) ho]
    exact mayTest_walk f q k n r s _ _ _ _ _ _ _ ho w hT rfl rfl rfl rfl rfl rfl (Lib.hid fun w => may_any k n r s h.v.re w)
  · rw [rgt_big f q (k, n, r, s) ho]
    exact mayTest_big f q k n r s ho (by have : (q : Int) < 256 := h.o1; omega) w
set_option maxHeartbeats 1000000 in
theorem right_walk (f : Int) (o : Nat) (k n : Int) (r : Nat) (s : ByteArray) (m : Bool) (h1 : 1 ≤ o) (h8 : o ≤ 8) (w : World)
    (M : Hid (∀ w, Calls Tryz.prog 92 #[vl k n r s] w fun e w' => e = .returned (.bool m) ∧ Below w.heap.size w w')) :
    Calls Tryz.prog 94 #[tOf (f, (o : Int), k, n, r, s)] w fun e w' => e = .returned (.bool (m && kok o k)) ∧ Below w.heap.size w w' := by
  have B0 := Lib.hid (Tbx.start w (f, (o : Int), k, n, r, s))
  obtain ⟨R, hR⟩ : ∃ R, (m && kok o k) = R := ⟨_, rfl⟩
  rw [hR]
  have HR := Lib.hid hR
  clear hR
  have t1 : ¬ (o : Int) < 1 := by omega
  have t2 : ¬ (8 : Int) < (o : Int) := by omega
  go_enter Tryz.func94, Tryz.ntmps94
  go_wp2_with fail
  refine (M.out _).mono ?_
  rintro e w2 ⟨rfl, hb⟩
  have B2 := Lib.hid (B0.out.next hb)
  clear hb M B0
  obtain ⟨c0, c1, c2, c3, c4, c5⟩ := B2.out.at_
  have BB := Lib.hid (B2.out.bel)
  cases m
  · go_wp2_with fail
    go_ret
    exact ⟨ret_bool (by rw [← HR.out]; rfl), BB.out⟩
  · rw [Bool.true_and] at HR
    unfold kok at HR
    by_cases o7 : o = 7
    · subst o7
      rw [if_pos rfl] at HR
      go_wp2_with fail
      go_ret
      exact ⟨ret_bool (by rw [← HR.out, Bool.eq_iff_iff]; simp), BB.out⟩
    · rw [if_neg o7] at HR
      have q7 : ((o : Int) == 7) = false := by simp; omega
      by_cases o8 : o = 8
      · subst o8
        rw [if_pos rfl] at HR
        go_wp2_with fail
        go_ret
        exact ⟨ret_bool (by rw [← HR.out, Bool.eq_iff_iff]; simp), BB.out⟩
      · rw [if_neg o8] at HR
        have q8 : ((o : Int) == 8) = false := by simp; omega
        go_wp2_with fail
        go_ret
        exact ⟨ret_bool (by rw [← HR.out, Bool.eq_iff_iff]; simp), BB.out⟩
set_option maxHeartbeats 1000000 in
theorem right_out (f : Int) (o : Nat) (k n : Int) (r : Nat) (s : ByteArray) (h : ¬ (1 ≤ o ∧ o ≤ 8)) (w : World) :
    Calls Tryz.prog 94 #[tOf (f, (o : Int), k, n, r, s)] w fun e w' => e = .returned (.bool false) ∧ Below w.heap.size w w' := by
  have B0 := Lib.hid (below_alloc w (tobj (f, (o : Int), k, n, r, s)))
  by_cases h1 : o < 1
  · clear h
    go_enter Tryz.func94, Tryz.ntmps94
    go_wp2_with fail
    go_ret
    exact ⟨rfl, B0.out⟩
  · have t1 : ¬ (o : Int) < 1 := by omega
    have t2 : (8 : Int) < (o : Int) := by omega
    clear h
    go_enter Tryz.func94, Tryz.ntmps94
    go_wp2_with fail
    go_ret
    exact ⟨rfl, B0.out⟩
theorem right_any (t : TT) (h : Okt t) (w : World) :
    Calls Tryz.prog 94 #[tOf t] w fun e w' => e = .returned (.bool (rgt t)) ∧ Below w.heap.size w w' := by
  obtain ⟨f, o, k, n, r, s⟩ := t
  obtain ⟨q, rfl⟩ : ∃ q : Nat, o = (q : Int) := ⟨o.toNat, by have : 0 ≤ o := h.o0; omega⟩
  by_cases ho : 1 ≤ q ∧ q ≤ 8
  · have e : rgt (f, (q : Int), k, n, r, s) = (mayv (k, n, r, s) && kok q k) := by
      unfold rgt
      simp only [Int.toNat_natCast]
      have : (decide (1 ≤ (q : Int) ∧ (q : Int) ≤ 8)) = true := by simp; omega
      rw [this, Bool.true_and]
    rw [e]
    exact right_walk f q k n r s _ ho.1 ho.2 w (Lib.hid fun w => rmay_any k n r s h.v.k0 w)
  · have e : rgt (f, (q : Int), k, n, r, s) = false := by
      unfold rgt
      have : (decide (1 ≤ (q : Int) ∧ (q : Int) ≤ 8)) = false := by simp; omega
      rw [this]; rfl
    rw [e]
    exact right_out f q k n r s ho w
end Go.Proofs.YtpnllbojifnopaaGreatDoor

/- Whether a question may be: both sides; what is asked of each of its tests. -/
namespace Go.Proofs.YtpnllbojifnopaaGreatDoor
open Go Go.RowKit Pk Rl
set_option maxRecDepth 20000

/- ofEach: asked of each number below n -/
set_option maxHeartbeats 1000000 in
theorem eachM (n : Nat) (hm : n ≤ 1000) (g0 : Nat) (p : Nat → Bool) (w : World)
    (F : Hid (∀ j, j < n → ∀ W, Below w.heap.size w W → Calls Tryz.prog 134 #[.int .i64 (j : Int), .pointer (some ⟨g0, 0, none⟩)] W fun e w' => e = .returned (.bool (p j)) ∧ Below W.heap.size W w')) :
    Calls Tryz.prog 133 #[.int .i64 (n : Int), .func (.func 134) #[] #[.pointer (some ⟨g0, 0, none⟩)]] w fun e w' => e = .returned (.bool ((List.range n).all p)) ∧ Below w.heap.size w w' := by
  go_enter Tryz.func133, Tryz.ntmps133
  go_wp2
  go_loopw [7] (fun i W => ∃ (j : Nat), i = .int .i64 j ∧ j ≤ n ∧ Hid (Below w.heap.size w W ∧ (List.range j).all p = true)) (fun i _ => n - (intOf i).toNat)
  case atStart => exact ⟨0, rfl, by omega, Lib.hid ⟨Below.refl _ _, rfl⟩⟩
  case round =>
    obtain ⟨j, rfl, hj, H⟩ := hrel
    by_cases c1 : j < n
    · have F1 := Lib.hid (F.out j c1 wr H.out.1)
      have B1 := Lib.hid H.out.1
      have HD := Lib.hid H.out.2
      have PJ := Lib.hid (show p j = false → (List.range n).all p = false from fun h => by
        rw [List.all_eq_false]; exact ⟨j, List.mem_range.2 c1, by simp [h]⟩)
      have PS := Lib.hid (show p j = true → (List.range (j + 1)).all p = true from fun h => by rw [List.range_succ, List.all_append, HD.out]; simp [h])
      clear H HD
      generalize p j = q at F1 PJ PS
      go_wp2_with fail
      refine F1.out.mono ?_
      rintro e w2 ⟨rfl, hb⟩
      have B2 := Lib.hid (below_go B1.out hb)
      clear hb F1 B1
      cases q
      · go_wp2_with fail
        go_ret
        exact ⟨ret_bool (PJ.out (by first | rfl | trivial)).symm, B2.out⟩
      · go_wp2_with fail
        go_roundw
        case rel => exact ⟨j + 1, by go_num, by omega, Lib.hid ⟨B2.out, PS.out (by first | rfl | trivial)⟩⟩
        case measure => simp [intOf]; omega
    · obtain rfl : j = n := by omega
      have B1 := Lib.hid H.out.1
      have HD := Lib.hid H.out.2
      clear H
      go_wp2_with fail
      go_ret
      exact ⟨ret_bool HD.out.symm, B1.out⟩
/- ofEach: asked of each number below n -/
set_option maxHeartbeats 1000000 in
theorem eachH (n : Nat) (hm : n ≤ 1000) (g0 g1 : Nat) (p : Nat → Bool) (w : World)
    (F : Hid (∀ j, j < n → ∀ W, Below w.heap.size w W → Calls Tryz.prog 151 #[.int .i64 (j : Int), .pointer (some ⟨g0, 0, none⟩), .pointer (some ⟨g1, 0, none⟩)] W fun e w' => e = .returned (.bool (p j)) ∧ Below W.heap.size W w')) :
    Calls Tryz.prog 133 #[.int .i64 (n : Int), .func (.func 151) #[] #[.pointer (some ⟨g0, 0, none⟩), .pointer (some ⟨g1, 0, none⟩)]] w fun e w' => e = .returned (.bool ((List.range n).all p)) ∧ Below w.heap.size w w' := by
  go_enter Tryz.func133, Tryz.ntmps133
  go_wp2
  go_loopw [7] (fun i W => ∃ (j : Nat), i = .int .i64 j ∧ j ≤ n ∧ Hid (Below w.heap.size w W ∧ (List.range j).all p = true)) (fun i _ => n - (intOf i).toNat)
  case atStart => exact ⟨0, rfl, by omega, Lib.hid ⟨Below.refl _ _, rfl⟩⟩
  case round =>
    obtain ⟨j, rfl, hj, H⟩ := hrel
    by_cases c1 : j < n
    · have F1 := Lib.hid (F.out j c1 wr H.out.1)
      have B1 := Lib.hid H.out.1
      have HD := Lib.hid H.out.2
      have PJ := Lib.hid (show p j = false → (List.range n).all p = false from fun h => by
        rw [List.all_eq_false]; exact ⟨j, List.mem_range.2 c1, by simp [h]⟩)
      have PS := Lib.hid (show p j = true → (List.range (j + 1)).all p = true from fun h => by rw [List.range_succ, List.all_append, HD.out]; simp [h])
      clear H HD
      generalize p j = q at F1 PJ PS
      go_wp2_with fail
      refine F1.out.mono ?_
      rintro e w2 ⟨rfl, hb⟩
      have B2 := Lib.hid (below_go B1.out hb)
      clear hb F1 B1
      cases q
      · go_wp2_with fail
        go_ret
        exact ⟨ret_bool (PJ.out (by first | rfl | trivial)).symm, B2.out⟩
      · go_wp2_with fail
        go_roundw
        case rel => exact ⟨j + 1, by go_num, by omega, Lib.hid ⟨B2.out, PS.out (by first | rfl | trivial)⟩⟩
        case measure => simp [intOf]; omega
    · obtain rfl : j = n := by omega
      have B1 := Lib.hid H.out.1
      have HD := Lib.hid H.out.2
      clear H
      go_wp2_with fail
      go_ret
      exact ⟨ret_bool HD.out.symm, B1.out⟩
/- ofEach: asked of each number below n -/
set_option maxHeartbeats 1000000 in
theorem eachS (n : Nat) (hm : n ≤ 1000) (g0 g1 : Nat) (p : Nat → Bool) (w : World)
    (F : Hid (∀ j, j < n → ∀ W, Below w.heap.size w W → Calls Tryz.prog 163 #[.int .i64 (j : Int), .pointer (some ⟨g0, 0, none⟩), .pointer (some ⟨g1, 0, none⟩)] W fun e w' => e = .returned (.bool (p j)) ∧ Below W.heap.size W w')) :
    Calls Tryz.prog 133 #[.int .i64 (n : Int), .func (.func 163) #[] #[.pointer (some ⟨g0, 0, none⟩), .pointer (some ⟨g1, 0, none⟩)]] w fun e w' => e = .returned (.bool ((List.range n).all p)) ∧ Below w.heap.size w w' := by
  go_enter Tryz.func133, Tryz.ntmps133
  go_wp2
  go_loopw [7] (fun i W => ∃ (j : Nat), i = .int .i64 j ∧ j ≤ n ∧ Hid (Below w.heap.size w W ∧ (List.range j).all p = true)) (fun i _ => n - (intOf i).toNat)
  case atStart => exact ⟨0, rfl, by omega, Lib.hid ⟨Below.refl _ _, rfl⟩⟩
  case round =>
    obtain ⟨j, rfl, hj, H⟩ := hrel
    by_cases c1 : j < n
    · have F1 := Lib.hid (F.out j c1 wr H.out.1)
      have B1 := Lib.hid H.out.1
      have HD := Lib.hid H.out.2
      have PJ := Lib.hid (show p j = false → (List.range n).all p = false from fun h => by
        rw [List.all_eq_false]; exact ⟨j, List.mem_range.2 c1, by simp [h]⟩)
      have PS := Lib.hid (show p j = true → (List.range (j + 1)).all p = true from fun h => by rw [List.range_succ, List.all_append, HD.out]; simp [h])
      clear H HD
      generalize p j = q at F1 PJ PS
      go_wp2_with fail
      refine F1.out.mono ?_
      rintro e w2 ⟨rfl, hb⟩
      have B2 := Lib.hid (below_go B1.out hb)
      clear hb F1 B1
      cases q
      · go_wp2_with fail
        go_ret
        exact ⟨ret_bool (PJ.out (by first | rfl | trivial)).symm, B2.out⟩
      · go_wp2_with fail
        go_roundw
        case rel => exact ⟨j + 1, by go_num, by omega, Lib.hid ⟨B2.out, PS.out (by first | rfl | trivial)⟩⟩
        case measure => simp [intOf]; omega
    · obtain rfl : j = n := by omega
      have B1 := Lib.hid H.out.1
      have HD := Lib.hid H.out.2
      clear H
      go_wp2_with fail
      go_ret
      exact ⟨ret_bool HD.out.symm, B1.out⟩

def pmay (x : Bool) (t : Int) (L : List TT) : Bool := decide (L.length ≤ 4) && !(x && decide (t ≠ 0)) && L.all rgt
set_option maxHeartbeats 1000000 in
theorem may1_any (g : Nat) (x : Bool) (t : Int) (a : Option Addr) (n c : Nat) (L : List TT) (j : Nat) (w : World) (hn : L.length = n) (_hm : n ≤ 1000) (hj : j < n) (hv : Tsts w a L) (hk : ∀ v ∈ L, Okt v) (hT : Tab w) (he : Pdt w g x t a n c) :
    Calls Tryz.prog 134 #[.int .i64 (j : Int), .pointer (some ⟨g, 0, none⟩)] w fun e w' => e = .returned (.bool (rgt (L.getD j tz))) ∧ Below w.heap.size w w' := by
  obtain ⟨b, off, rfl, c0, c1, c2, c3, c4, c5⟩ := hv j (by omega)
  obtain ⟨e0, e1, e2⟩ := he
  have M := Lib.hid (fun W (hW : Tab W) => mayTest_any (L.getD j tz) (hk _ (tgetD_mem L j (by omega))) W hW)
  have HT := Lib.hid hT
  clear hn hv hk hT
  generalize L.getD j tz = v at M c0 c1 c2 c3 c4 c5
  obtain ⟨f, o, k, m, r, s⟩ := v
  generalize rgt (f, o, k, m, r, s) = q at M
  go_enter Tryz.func134, Tryz.ntmps134
  go_wp2_with fail
  refine (M.out _ HT.out).mono ?_
  rintro e w2 ⟨rfl, hb⟩
  have B2 := Lib.hid hb
  go_wp2_with fail
  go_ret
  exact ⟨rfl, B2.out⟩
set_option maxHeartbeats 1000000 in
theorem pmay_any (x : Bool) (t : Int) (a : Option Addr) (n c : Nat) (L : List TT) (w : World) (hn : L.length = n) (hm : n ≤ 1000) (hv : Tsts w a L) (hk : ∀ v ∈ L, Okt v) (hT : Tab w) :
    Calls Tryz.prog 110 #[pv x t a n c] w fun e w' => e = .returned (.bool (pmay x t L)) ∧ Below w.heap.size w w' := by
  have B0 := Lib.hid (below_alloc w (pcells x t a n c))
  have E := Lib.hid (eachM n hm w.heap.size (fun j => rgt (L.getD j tz)) (w.alloc (pcells x t a n c)) (Lib.hid fun j hj W hW => may1_any w.heap.size x t a n c L j W hn hm hj ((hv.below B0.out).below hW) hk ((hT.below B0.out).below hW) ((Pdt.alloc w x t a n c).next hW)))
  rw [all_rangeT L n hn] at E
  have hc : (decide (n ≤ 4) && !(x && decide (t ≠ 0)) && L.all rgt) = pmay x t L := by rw [pmay, hn]
  have HC := Lib.hid hc
  clear hn hv hk hc hT
  generalize L.all rgt = q at E HC
  by_cases c8 : n ≤ 4
  · have u8 : ¬ (4 : Int) < (n : Int) := by omega
    rw [decide_eq_true c8, Bool.true_and] at HC
    cases x
    · rw [Bool.false_and, Bool.not_false, Bool.true_and] at HC
      go_enter Tryz.func110, Tryz.ntmps110
      go_wp2_with fail
      refine E.out.mono ?_
      rintro e w2 ⟨rfl, hb⟩
      have B2 := Lib.hid (below_go B0.out hb)
      clear hb
      go_wp2_with fail
      go_ret
      exact ⟨ret_bool HC.out, B2.out⟩
    · rw [Bool.true_and] at HC
      by_cases c0 : t = 0
      · subst c0
        rw [decide_eq_false (by simp), Bool.not_false, Bool.true_and] at HC
        go_enter Tryz.func110, Tryz.ntmps110
        go_wp2_with fail
        refine E.out.mono ?_
        rintro e w2 ⟨rfl, hb⟩
        have B2 := Lib.hid (below_go B0.out hb)
        clear hb
        go_wp2_with fail
        go_ret
        exact ⟨ret_bool HC.out, B2.out⟩
      · rw [decide_eq_true c0, Bool.not_true, Bool.false_and] at HC
        have t0 : (t == 0) = false := by simpa using c0
        clear E
        go_enter Tryz.func110, Tryz.ntmps110
        go_wp2_with fail
        go_ret
        exact ⟨ret_bool HC.out, B0.out⟩
  · have u8 : (4 : Int) < (n : Int) := by omega
    rw [decide_eq_false c8, Bool.false_and, Bool.false_and] at HC
    clear E c8
    go_enter Tryz.func110, Tryz.ntmps110
    go_wp2_with fail
    go_ret
    exact ⟨ret_bool HC.out, B0.out⟩
set_option maxHeartbeats 2000000 in
theorem rpmay_any (x : Bool) (t : Int) (a : Option Addr) (n c : Nat) (L : List TT) (w : World) (hn : L.length = n) (hm : n ≤ 1000) (hv : Tsts w a L) (hk : ∀ v ∈ L, Okt v) :
    Calls Tryz.prog 58 #[pv x t a n c] w fun e w' => e = .returned (.bool (pmay x t L)) ∧ Below w.heap.size w w' := by
  have E0 := Lib.hid (Pdt.alloc w x t a n c)
  have B0 := Lib.hid (below_alloc w (pcells x t a n c))
  have HN := Lib.hid hn
  have HV := Lib.hid hv
  have HK := Lib.hid hk
  have HC := Lib.hid (show (decide (n ≤ 4) && !(x && decide (t ≠ 0)) && L.all rgt) = pmay x t L by rw [pmay, hn])
  obtain ⟨R, hR⟩ : ∃ R, pmay x t L = R := ⟨_, rfl⟩
  rw [hR]
  rw [hR] at HC
  clear hn hv hk hR
  go_enter Tryz.func58, Tryz.ntmps58
  go_wp2
  go_loopw [7] (fun i W => ∃ (j : Nat), i = .int .i64 j ∧ j ≤ n ∧ Hid (Pdt W w.heap.size x t a n c ∧ Below w.heap.size w W ∧ (L.drop j).all rgt = L.all rgt)) (fun i _ => n - (intOf i).toNat)
  case atStart => exact ⟨0, rfl, by omega, Lib.hid ⟨E0.out, B0.out, rfl⟩⟩
  case round =>
    obtain ⟨j, rfl, hj, H⟩ := hrel
    obtain ⟨e0, e1, e2⟩ := H.out.1
    by_cases c1 : j < n
    · obtain ⟨b, off, rfl, c0, c1, c2, c3, c4, c5⟩ := (HV.out.below H.out.2.1) j (by have := HN.out; omega)
      have M := Lib.hid (right_any (L.getD j tz) (HK.out _ (tgetD_mem L j (by have := HN.out; omega))))
      have HD := Lib.hid (H.out.2.2)
      rw [tdrop_cons L j (by have := HN.out; omega), List.all_cons] at HD
      generalize L.getD j tz = v at M HD c0 c1 c2 c3 c4 c5
      obtain ⟨f, o, k, m, r, s⟩ := v
      generalize rgt (f, o, k, m, r, s) = q at M HD
      have E1 := Lib.hid H.out.1
      have B1 := Lib.hid H.out.2.1
      clear H
      go_wp2_with fail
      refine (M.out _).mono ?_
      rintro e w2 ⟨rfl, hb⟩
      have E2 := Lib.hid (E1.out.next hb)
      have B2 := Lib.hid (below_go B1.out hb)
      clear hb M E1 B1 E0 B0 e0 e1 e2 c0 c1 c2 c3 c4 c5
      cases q
      · rw [Bool.false_and] at HD
        go_wp2_with fail
        go_ret
        exact ⟨ret_bool (by rw [← HC.out, ← HD.out, Bool.and_false]), B2.out⟩
      · rw [Bool.true_and] at HD
        go_wp2_with fail
        go_roundw
        case rel => exact ⟨j + 1, by go_num, by omega, Lib.hid ⟨E2.out, B2.out, HD.out⟩⟩
        case measure => simp [intOf]; omega
    · obtain rfl : j = n := by omega
      have HD := Lib.hid H.out.2.2
      have B1 := Lib.hid H.out.2.1
      rw [List.drop_eq_nil_of_le (by have := HN.out; omega), List.all_nil] at HD
      rw [← HD.out, Bool.and_true] at HC
      clear H HD
      by_cases c8 : j ≤ 4
      · rw [decide_eq_true c8, Bool.true_and] at HC
        have u8 : (j : Int) ≤ 4 := by omega
        cases x
        · go_wp2_with fail
          go_ret
          exact ⟨ret_bool HC.out, B1.out⟩
        · by_cases c0 : t = 0
          · subst c0
            go_wp2_with fail
            go_ret
            exact ⟨ret_bool HC.out, B1.out⟩
          · have t0 : (t == 0) = false := by simpa using c0
            rw [decide_eq_true c0] at HC
            go_wp2_with fail
            go_ret
            exact ⟨ret_bool (by rw [← HC.out]; simp [c0]), B1.out⟩
      · rw [decide_eq_false c8, Bool.false_and] at HC
        have u8 : ¬ (j : Int) ≤ 4 := by omega
        go_wp2_with fail
        go_ret
        exact ⟨ret_bool HC.out, B1.out⟩
end Go.Proofs.YtpnllbojifnopaaGreatDoor

/- Whether two questions are the same: both sides. -/
namespace Go.Proofs.YtpnllbojifnopaaGreatDoor
open Go Go.RowKit Pk Rl
set_option maxRecDepth 20000

def smt (t u : TT) : Bool := decide (t.1 = u.1) && decide (t.2.1 = u.2.1) && smv t.2.2 u.2.2
abbrev TT2 (L M : List TT) (j : Nat) : Bool := smt (L.getD j tz) (M.getD j tz)
def psm (x : Bool) (t : Int) (L : List TT) (x' : Bool) (t' : Int) (M : List TT) : Bool := decide (x = x') && decide (t = t') && decide (L.length = M.length) && (List.range L.length).all (TT2 L M)
theorem below2 (w : World) (o o' : Obj) : Below w.heap.size w ((w.alloc o).alloc o') := below_go (below_alloc w o) (below_alloc _ o')
structure T2x (w W : World) (t u : TT) : Prop where
  one : Att W w.heap.size 0 t
  two : Att W (w.heap.size + 1) 0 u
  bel : Below w.heap.size w W
theorem T2x.next {w W W' : World} {t u : TT} (h : T2x w W t u) (hb : Below W.heap.size W W') : T2x w W' t u := ⟨h.one.below hb, h.two.below hb, below_go h.bel hb⟩
theorem T2x.start (w : World) (t u : TT) : T2x w ((w.alloc (tobj t)).alloc (tobj u)) t u := by
  have h1 := (Tbx.start w t).next (below_alloc _ (tobj u))
  have h2 := (Tbx.start (w.alloc (tobj t)) u).at_
  rw [World.size_alloc] at h2
  exact ⟨h1.at_, h2, h1.bel⟩
set_option maxHeartbeats 1000000 in
theorem sameTest_any (t u : TT) (ht : Okt t) (hu : Okt u) (w : World) :
    Calls Tryz.prog 164 #[tOf t, tOf u] w fun e w' => e = .returned (.bool (smt t u)) ∧ Below w.heap.size w w' := by
  have S := Lib.hid (vsame_v t.2.2 u.2.2 ht.v hu.v)
  have T0 := Lib.hid (T2x.start w t u)
  have HC := Lib.hid (show (decide (t.1 = u.1) && decide (t.2.1 = u.2.1) && smv t.2.2 u.2.2) = smt t u from rfl)
  generalize smt t u = R at HC
  clear ht hu
  obtain ⟨f, o, k, n, r, s⟩ := t
  obtain ⟨f', o', k', n', r', s'⟩ := u
  generalize smv (k, n, r, s) (k', n', r', s') = q at S HC
  by_cases c1 : f = f'
  · subst c1
    have e1 : (f == f) = true := by simp
    by_cases c2 : o = o'
    · subst c2
      have e2 : (o == o) = true := by simp
      rw [decide_eq_true rfl, decide_eq_true rfl, Bool.true_and, Bool.true_and] at HC
      go_enter Tryz.func164, Tryz.ntmps164
      go_wp2_with fail
      refine (S.out _).mono ?_
      rintro e w2 ⟨rfl, hb⟩
      have T2 := Lib.hid (T0.out.next hb)
      clear hb
      go_wp2_with fail
      go_ret
      exact ⟨ret_bool HC.out, T2.out.bel⟩
    · have e2 : (o == o') = false := by simpa using c2
      rw [decide_eq_true rfl, decide_eq_false c2, Bool.true_and, Bool.false_and] at HC
      clear S
      go_enter Tryz.func164, Tryz.ntmps164
      go_wp2_with fail
      go_ret
      exact ⟨ret_bool HC.out, T0.out.bel⟩
  · have e1 : (f == f') = false := by simpa using c1
    rw [decide_eq_false c1, Bool.false_and, Bool.false_and] at HC
    clear S
    go_enter Tryz.func164, Tryz.ntmps164
    go_wp2_with fail
    go_ret
    exact ⟨ret_bool HC.out, T0.out.bel⟩

structure SB (w W : World) (g h : Nat) (x : Bool) (t : Int) (a : Option Addr) (n c : Nat) (L : List TT) (x' : Bool) (t' : Int) (a' : Option Addr) (n' c' : Nat) (M : List TT) : Prop where
  one : Pdt W g x t a n c
  two : Pdt W h x' t' a' n' c'
  v1 : Tsts W a L
  v2 : Tsts W a' M
  bel : Below w.heap.size w W
theorem SB.next {w W W' : World} {g h : Nat} {x : Bool} {t : Int} {a : Option Addr} {n c : Nat} {L : List TT} {x' : Bool} {t' : Int} {a' : Option Addr} {n' c' : Nat} {M : List TT}
    (k : SB w W g h x t a n c L x' t' a' n' c' M) (hb : Below W.heap.size W W') : SB w W' g h x t a n c L x' t' a' n' c' M :=
  ⟨k.one.next hb, k.two.next hb, k.v1.below hb, k.v2.below hb, below_go k.bel hb⟩
theorem SB.self {w W : World} {g h : Nat} {x : Bool} {t : Int} {a : Option Addr} {n c : Nat} {L : List TT} {x' : Bool} {t' : Int} {a' : Option Addr} {n' c' : Nat} {M : List TT}
    (k : SB w W g h x t a n c L x' t' a' n' c' M) : SB W W g h x t a n c L x' t' a' n' c' M := ⟨k.one, k.two, k.v1, k.v2, Below.refl _ _⟩
theorem SB.start (w : World) (x : Bool) (t : Int) (a : Option Addr) (n c : Nat) (L : List TT) (x' : Bool) (t' : Int) (a' : Option Addr) (n' c' : Nat) (M : List TT) (h1 : Tsts w a L) (h2 : Tsts w a' M) :
    SB w ((w.alloc (pcells x t a n c)).alloc (pcells x' t' a' n' c')) w.heap.size (w.heap.size + 1) x t a n c L x' t' a' n' c' M := by
  have k1 := (Pdt.alloc w x t a n c).next (below_alloc _ (pcells x' t' a' n' c'))
  have k2 := Pdt.alloc (w.alloc (pcells x t a n c)) x' t' a' n' c'
  rw [World.size_alloc] at k2
  have B := below2 w (pcells x t a n c) (pcells x' t' a' n' c')
  exact ⟨k1, k2, h1.below B, h2.below B, B⟩
abbrev Ks (w W : World) (g h : Nat) (x : Bool) (t : Int) (b off n c : Nat) (L : List TT) (x' : Bool) (t' : Int) (b' off' n' c' : Nat) (M : List TT) (j : Nat) (f o k i : Int) (r : Nat) (s : ByteArray) (f' o' k' i' : Int) (r' : Nat) (s' : ByteArray) : Prop :=
  W.cell? ⟨g, 2, none⟩ = some (.slice (some ⟨b, off, none⟩) n c) ∧ W.cell? ⟨h, 2, none⟩ = some (.slice (some ⟨b', off', none⟩) n' c') ∧
  W.cell? ⟨b, off + j * 6, none⟩ = some (.int .u8 f) ∧ W.cell? ⟨b, off + j * 6 + 1, none⟩ = some (.int .u8 o) ∧ W.cell? ⟨b, off + j * 6 + 2, none⟩ = some (.int .u8 k) ∧ W.cell? ⟨b, off + j * 6 + 3, none⟩ = some (.int .i64 i) ∧
  W.cell? ⟨b, off + j * 6 + 4, none⟩ = some (.float .f64 r) ∧ W.cell? ⟨b, off + j * 6 + 5, none⟩ = some (.string s) ∧
  W.cell? ⟨b', off' + j * 6, none⟩ = some (.int .u8 f') ∧ W.cell? ⟨b', off' + j * 6 + 1, none⟩ = some (.int .u8 o') ∧ W.cell? ⟨b', off' + j * 6 + 2, none⟩ = some (.int .u8 k') ∧ W.cell? ⟨b', off' + j * 6 + 3, none⟩ = some (.int .i64 i') ∧
  W.cell? ⟨b', off' + j * 6 + 4, none⟩ = some (.float .f64 r') ∧ W.cell? ⟨b', off' + j * 6 + 5, none⟩ = some (.string s') ∧ Hid (SB w W g h x t (some ⟨b, off, none⟩) n c L x' t' (some ⟨b', off', none⟩) n' c' M)
theorem ks_of {w W : World} {g h : Nat} {x : Bool} {t : Int} {b off n c : Nat} {L : List TT} {x' : Bool} {t' : Int} {b' off' n' c' : Nat} {M : List TT} {j : Nat} {f o k i : Int} {r : Nat} {s : ByteArray} {f' o' k' i' : Int} {r' : Nat} {s' : ByteArray}
    (hj : (j < L.length ∧ L.getD j tz = (f, o, k, i, r, s)) ∧ j < M.length ∧ M.getD j tz = (f', o', k', i', r', s')) (K : SB w W g h x t (some ⟨b, off, none⟩) n c L x' t' (some ⟨b', off', none⟩) n' c' M) :
    Ks w W g h x t b off n c L x' t' b' off' n' c' M j f o k i r s f' o' k' i' r' s' := by
  obtain ⟨b2, off2, e2, h0, h1, h2, h3, h4, h5⟩ := K.v1 j hj.1.1
  injection e2 with e2
  injection e2 with e3 e4
  subst e3 e4
  rw [hj.1.2] at h0 h1 h2 h3 h4 h5
  obtain ⟨b3, off3, e5, k0, k1, k2, k3, k4, k5⟩ := K.v2 j hj.2.1
  injection e5 with e5
  injection e5 with e6 e7
  subst e6 e7
  rw [hj.2.2] at k0 k1 k2 k3 k4 k5
  exact ⟨K.one.2.2, K.two.2.2, h0, h1, h2, h3, h4, h5, k0, k1, k2, k3, k4, k5, Lib.hid K⟩
theorem ks_next {w W W' : World} {g h : Nat} {x : Bool} {t : Int} {b off n c : Nat} {L : List TT} {x' : Bool} {t' : Int} {b' off' n' c' : Nat} {M : List TT} {j : Nat} {f o k i : Int} {r : Nat} {s : ByteArray} {f' o' k' i' : Int} {r' : Nat} {s' : ByteArray}
    (hj : Hid ((j < L.length ∧ L.getD j tz = (f, o, k, i, r, s)) ∧ j < M.length ∧ M.getD j tz = (f', o', k', i', r', s'))) (hb : Below W.heap.size W W') (K : Ks w W g h x t b off n c L x' t' b' off' n' c' M j f o k i r s f' o' k' i' r' s') :
    Ks w W' g h x t b off n c L x' t' b' off' n' c' M j f o k i r s f' o' k' i' r' s' := ks_of hj.out (K.2.2.2.2.2.2.2.2.2.2.2.2.2.2.out.next hb)

set_option maxHeartbeats 2000000 in
theorem same1_any (g h : Nat) (x : Bool) (t : Int) (a : Option Addr) (n c : Nat) (L : List TT) (x' : Bool) (t' : Int) (a' : Option Addr) (c' : Nat) (M : List TT) (j : Nat) (w : World) (hn : L.length = n) (hn' : M.length = n) (hj : j < n)
    (hk : ∀ v ∈ L, Okt v) (hk' : ∀ v ∈ M, Okt v) (K : SB w w g h x t a n c L x' t' a' n c' M) :
    Calls Tryz.prog 163 #[.int .i64 (j : Int), .pointer (some ⟨g, 0, none⟩), .pointer (some ⟨h, 0, none⟩)] w fun e w' => e = .returned (.bool (TT2 L M j)) ∧ Below w.heap.size w w' := by
  obtain ⟨b, off, rfl, _⟩ := K.v1 j (by omega)
  obtain ⟨b', off', rfl, _⟩ := K.v2 j (by omega)
  have S := Lib.hid (sameTest_any (L.getD j tz) (M.getD j tz) (hk _ (tgetD_mem L j (by omega))) (hk' _ (tgetD_mem M j (by omega))))
  obtain ⟨v, hv⟩ : ∃ v, L.getD j tz = v := ⟨_, rfl⟩
  obtain ⟨u, hu⟩ : ∃ u, M.getD j tz = u := ⟨_, rfl⟩
  unfold TT2
  rw [hv, hu] at S ⊢
  obtain ⟨f, o, k, i, r, s⟩ := v
  obtain ⟨f', o', k', i', r', s'⟩ := u
  generalize smt (f, o, k, i, r, s) (f', o', k', i', r', s') = q at S
  have KJ : Hid ((j < L.length ∧ L.getD j tz = (f, o, k, i, r, s)) ∧ j < M.length ∧ M.getD j tz = (f', o', k', i', r', s')) := Lib.hid ⟨⟨by omega, hv⟩, by omega, hu⟩
  have KD := Lib.hid (ks_next KJ (Below.refl _ _).drew (ks_of KJ.out K))
  obtain ⟨c0, c1, c2, c3, c4, c5, c6, c7, d0, d1, d2, d3, d4, d5, _⟩ := ks_of KJ.out K
  clear hn hn' hk hk' K hv hu
  go_enter Tryz.func163, Tryz.ntmps163
  go_wp2_with fail
  go_region_held3 (fun W => W.cell? ⟨g, 2, none⟩ = some (.slice (some ⟨b, off, none⟩) n c) ∧ W.cell? ⟨h, 2, none⟩ = some (.slice (some ⟨b', off', none⟩) n c') ∧
      W.cell? ⟨b, off + j * 6, none⟩ = some (.int .u8 f) ∧ W.cell? ⟨b, off + j * 6 + 1, none⟩ = some (.int .u8 o) ∧ W.cell? ⟨b, off + j * 6 + 2, none⟩ = some (.int .u8 k) ∧ W.cell? ⟨b, off + j * 6 + 3, none⟩ = some (.int .i64 i) ∧
      W.cell? ⟨b, off + j * 6 + 4, none⟩ = some (.float .f64 r) ∧ W.cell? ⟨b, off + j * 6 + 5, none⟩ = some (.string s) ∧
      W.cell? ⟨b', off' + j * 6, none⟩ = some (.int .u8 f') ∧ W.cell? ⟨b', off' + j * 6 + 1, none⟩ = some (.int .u8 o') ∧ W.cell? ⟨b', off' + j * 6 + 2, none⟩ = some (.int .u8 k') ∧ W.cell? ⟨b', off' + j * 6 + 3, none⟩ = some (.int .i64 i') ∧
      W.cell? ⟨b', off' + j * 6 + 4, none⟩ = some (.float .f64 r') ∧ W.cell? ⟨b', off' + j * 6 + 5, none⟩ = some (.string s') ∧ Hid (SB w W g h x t (some ⟨b, off, none⟩) n c L x' t' (some ⟨b', off', none⟩) n c' M))
    (first | (with_reducible assumption) | (with_reducible exact KD.out) | (with_reducible exact ks_next KJ b1 (by assumption)))
    (first | (go_at_call 164; (with_reducible refine (S.out _).mono ?_); rintro e w' ⟨rfl, b1⟩))
  rename_i hHeld
  have HB2 := Lib.hid hHeld.2.2.2.2.2.2.2.2.2.2.2.2.2.2.out.bel
  clear hHeld
  go_wp2_with fail
  go_ret
  exact ⟨rfl, HB2.out⟩

set_option maxHeartbeats 2000000 in
theorem psame_any (x : Bool) (t : Int) (a : Option Addr) (n c : Nat) (L : List TT) (x' : Bool) (t' : Int) (a' : Option Addr) (n' c' : Nat) (M : List TT) (w : World) (hn : L.length = n) (hn' : M.length = n') (hm : n ≤ 1000)
    (hv : Tsts w a L) (hv' : Tsts w a' M) (hk : ∀ v ∈ L, Okt v) (hk' : ∀ v ∈ M, Okt v) :
    Calls Tryz.prog 153 #[pv x t a n c, pv x' t' a' n' c'] w fun e w' => e = .returned (.bool (psm x t L x' t' M)) ∧ Below w.heap.size w w' := by
  have K0 := Lib.hid (SB.start w x t a n c L x' t' a' n' c' M hv hv')
  have E := Lib.hid (fun (h : n = n') => eachS n hm w.heap.size (w.heap.size + 1) (TT2 L M) ((w.alloc (pcells x t a n c)).alloc (pcells x' t' a' n' c')) (Lib.hid fun j hj W hW => by
    subst h
    exact same1_any w.heap.size (w.heap.size + 1) x t a n c L x' t' a' c' M j W hn hn' hj hk hk' (K0.out.next hW).self))
  have HC := Lib.hid (show (decide (x = x') && decide (t = t') && decide (n = n') && (List.range n).all (TT2 L M)) = psm x t L x' t' M by unfold psm; rw [hn, hn'])
  have BB := Lib.hid K0.out.bel
  generalize psm x t L x' t' M = R at HC
  clear hn hn' hm hv hv' hk hk' K0
  generalize (List.range n).all (TT2 L M) = q at E HC
  by_cases cx : x = x'
  · subst cx
    have ex : (x == x) = true := by simp
    rw [decide_eq_true rfl, Bool.true_and] at HC
    by_cases ct : t = t'
    · subst ct
      have et : (t == t) = true := by simp
      rw [decide_eq_true rfl, Bool.true_and] at HC
      by_cases cn : n = n'
      · subst cn
        have en : ((n : Int) == (n : Int)) = true := by simp
        rw [decide_eq_true rfl, Bool.true_and] at HC
        have E2 := Lib.hid (E.out rfl)
        clear E
        go_enter Tryz.func153, Tryz.ntmps153
        go_wp2_with fail
        refine E2.out.mono ?_
        rintro e w2 ⟨rfl, hb⟩
        have B2 := Lib.hid (below_go BB.out hb)
        clear hb
        go_wp2_with fail
        go_ret
        exact ⟨ret_bool HC.out, B2.out⟩
      · have en : ((n : Int) == (n' : Int)) = false := by simp; omega
        rw [decide_eq_false cn, Bool.false_and] at HC
        clear E cn
        go_enter Tryz.func153, Tryz.ntmps153
        go_wp2_with fail
        go_ret
        exact ⟨ret_bool HC.out, BB.out⟩
    · have et : (t == t') = false := by simpa using ct
      rw [decide_eq_false ct, Bool.false_and, Bool.false_and] at HC
      clear E
      go_enter Tryz.func153, Tryz.ntmps153
      go_wp2_with fail
      go_ret
      exact ⟨ret_bool HC.out, BB.out⟩
  · have ex : (x == x') = false := by simpa using cx
    rw [decide_eq_false cx, Bool.false_and, Bool.false_and, Bool.false_and] at HC
    clear E
    go_enter Tryz.func153, Tryz.ntmps153
    go_wp2_with fail
    go_ret
    exact ⟨ret_bool HC.out, BB.out⟩
end Go.Proofs.YtpnllbojifnopaaGreatDoor
