/- The chapter's examples. -/
import Derived.Test.YtnjndlbhnkhlhaaDoorTrS
namespace Go.Proofs.YtnjndlbhnkhlhaaDoor
open Go Go.RowKit Pk Rl
set_option maxRecDepth 20000

abbrev one (t : Int) : Nd := ⟨1, ⟨false, t, none, 0, 0, []⟩, false, qz, 0, 0, 0⟩
abbrev two : List Nd := [⟨2, qz, false, qz, 0, 0, 2⟩, one 1, one 2]
abbrev rep : Nd := ⟨4, qz, false, qz, 2, 3, 3⟩
theorem frn_one (t : Int) (r : List Nd) : frn (one t :: r) = [one t] := by
  rw [frn_cons, if_neg (by simp)]; simp
theorem pts_one (t : Int) : pts [one t] = [] := by unfold pts; rw [frn_one, List.tail_cons, spl_nil]; rfl
theorem ofp_one (F : List Nd → Bool) (t : Int) : ofp F [one t] = true := by unfold ofp; rw [frn_one]; simp only [spl_nil]; rfl
theorem frn_two : frn two = two := by
  rw [frn_cons, if_neg (by simp)]; rfl
theorem spl_two : spl [one 1, one 2] = some [[one 1], [one 2]] := by
  rw [spl_cons _ (by simp), frn_one, if_neg (by simp)]
  show (spl [one 2]).map _ = _
  rw [spl_cons _ (by simp), frn_one, if_neg (by simp)]
  show ((spl []).map _).map _ = _
  rw [spl_nil]; rfl
theorem pts_two : pts two = [[one 1], [one 2]] := by unfold pts; rw [frn_two]; show (spl [one 1, one 2]).getD [] = _; rw [spl_two]; rfl
theorem ofp_two (F : List Nd → Bool) : ofp F two = (F [one 1] && (F [one 2] && true)) := by
  rw [ofp_cons (by rw [frn_two]; simp), frn_two]
  show (match spl [one 1, one 2] with | none => false | some ps => ps.all F) = _
  rw [spl_two]; rfl
theorem frn_rep : frn (rep :: two) = rep :: two := by
  rw [frn_cons, if_neg (by simp)]; rfl
theorem spl_rep : spl two = some [two] := by
  rw [spl_cons _ (by simp), frn_two, if_neg (by simp)]
  show (spl []).map _ = _
  rw [spl_nil]; rfl
theorem pts_rep : pts (rep :: two) = [two] := by unfold pts; rw [frn_rep]; show (spl two).getD [] = _; rw [spl_rep]; rfl
theorem ofp_rep (F : List Nd → Bool) : ofp F (rep :: two) = (F two && true) := by
  rw [ofp_cons (by rw [frn_rep]; simp), frn_rep]
  show (match spl two with | none => false | some ps => ps.all F) = _
  rw [spl_rep]; rfl
theorem fmd_one (k : Nat) (t : Int) : fmd (k + 1) [one t] = true := by
  show (ofp (fmd k) [one t] && kd (one t) (pts [one t]).length) = true
  rw [ofp_one, pts_one]; rfl
theorem fmd_two (k : Nat) : fmd (k + 2) two = true := by
  show (ofp (fmd (k + 1)) two && kd _ (pts two).length) = true
  rw [ofp_two, pts_two, fmd_one, fmd_one]; rfl
theorem fmd_rep (k : Nat) : fmd (k + 3) (rep :: two) = true := by
  show (ofp (fmd (k + 2)) (rep :: two) && kd _ (pts (rep :: two)).length) = true
  rw [ofp_rep, pts_rep, fmd_two]; rfl
theorem dpt_one (k : Nat) (t : Int) : dpt (k + 1) [one t] = 0 := by rw [dpt, pts_one]; rfl
theorem dpt_two (k : Nat) : dpt (k + 2) two = 1 := by
  rw [dpt, pts_two]
  simp only [List.foldl_cons, List.foldl_nil, dpt_one]; rfl
theorem dpt_rep (k : Nat) : dpt (k + 3) (rep :: two) = 2 := by
  rw [dpt, pts_rep]
  simp only [List.foldl_cons, List.foldl_nil, dpt_two]; rfl
theorem plc_one (k : Nat) (t : Int) : plc (k + 1) [one t] = 1 := by
  rw [plc]; exact if_pos rfl
theorem plc_two (k : Nat) : plc (k + 2) two = 2 := by
  rw [plc, pts_two]
  simp only [List.foldl_cons, List.foldl_nil, plc_one]
  show (if (2 : Int) = 1 then (1 : Int) else if (2 : Int) = 4 then _ else wrap64 (wrap64 (0 + 1) + 1)) = 2
  rw [if_neg (by decide), if_neg (by decide)]
  unfold wrap64; rfl
theorem plc_rep (k : Nat) : plc (k + 3) (rep :: two) = 6 := by
  rw [plc, pts_rep]
  simp only [List.foldl_cons, List.foldl_nil, plc_two]
  show (if (4 : Int) = 1 then (1 : Int) else if (4 : Int) = 4 then wrap64 (wrap64 (0 + 2) * 3) else _) = 6
  rw [if_neg (by decide), if_pos rfl]
  unfold wrap64; rfl
theorem mp_two0 : mp two 10 = 0 := by
  unfold mp
  rw [if_neg (by decide), if_neg (by rw [frn_two, fmd_two 31]; simp), if_neg (by decide), dpt_two 31, plc_two 31]; decide
theorem mp_rep0 : mp (rep :: two) 1 = 0 := by
  unfold mp
  rw [if_neg (by decide), if_neg (by rw [frn_rep, fmd_rep 30]; simp), if_neg (by decide), dpt_rep 30, plc_rep 30]; decide
/- nodes without tests -/
def Bare (q : Qu) : Prop := q.a = none ∧ q.n = 0 ∧ q.c = 0 ∧ q.L = []
theorem QB.bare {w : World} {B : Nat} {v : Value} {q : Qu} (h : Bare q) : QB w B v q := by
  obtain ⟨x, t, a, n, c, L⟩ := q
  obtain ⟨rfl, rfl, rfl, rfl⟩ := h
  exact ⟨OwnT.nil _ _, rfl, by simp, by simp, fun g hg => by cases hg⟩
theorem Qok.bare {w : World} {q : Qu} (h : Bare q) : Qok w q := by
  obtain ⟨x, t, a, n, c, L⟩ := q
  obtain ⟨rfl, rfl, rfl, rfl⟩ := h
  exact ⟨rfl, by simp, Tsts.nil _ _, by simp⟩
def Pln (D : List Nd) : Prop := ∀ v ∈ D, Bare v.p ∧ Bare v.g ∧ Rg v
theorem Pln.pt {w : World} {A : Option Addr} {n c : Nat} {D : List Nd} (h : Pln D) (hl : D.length = n) (hn : n ≤ 1000) (hc : n ≤ c) (hr : Nds w A D) : Pt w A n c D :=
  ⟨hl, hn, hc, hr, fun v hv => by obtain ⟨q1, q2, r⟩ := h v hv; exact ⟨Qok.bare q1, Qok.bare q2, r.k0, r.k1, r.l0, r.l1, r.h0, r.h1, r.s0, r.s1⟩⟩
theorem pln_one (t : Int) : Bare (one t).p ∧ Bare (one t).g ∧ Rg (one t) := ⟨⟨rfl, rfl, rfl, rfl⟩, ⟨rfl, rfl, rfl, rfl⟩, by simp, by simp, by simp, by simp, by simp, by simp, by simp, by simp⟩
theorem pln_two : Pln two := by
  intro v hv
  simp only [two, List.mem_cons, List.not_mem_nil, or_false] at hv
  rcases hv with rfl | rfl | rfl
  · exact ⟨⟨rfl, rfl, rfl, rfl⟩, ⟨rfl, rfl, rfl, rfl⟩, by decide, by decide, by decide, by decide, by decide, by decide, by decide, by decide⟩
  · exact pln_one 1
  · exact pln_one 2
theorem pln_rep : Pln (rep :: two) := by
  intro v hv
  rcases List.mem_cons.1 hv with rfl | hv
  · exact ⟨⟨rfl, rfl, rfl, rfl⟩, ⟨rfl, rfl, rfl, rfl⟩, by decide, by decide, by decide, by decide, by decide, by decide, by decide, by decide⟩
  · exact pln_two v hv
/- rows of nodes of one's own, by cells alone; many appended at once -/
def RowN (w : World) (B : Nat) (v : Value) (D : List Nd) : Prop := w.ownsRow B 39 11 v D.length (ncls D)
theorem RowN.form {w : World} {B : Nat} {v : Value} {D : List Nd} (h : RowN w B v D) : ∃ A c, v = .slice A D.length c ∧ Nds w A D ∧ D.length ≤ c := by
  rcases h.2 with ⟨rfl, h0⟩ | ⟨g, cap, cur, rfl, _, _, hcap, _⟩
  · have : D = [] := List.eq_nil_of_length_eq_zero h0
    subst this
    exact ⟨none, 0, rfl, Nds.nil _ _, Nat.le_refl _⟩
  · refine ⟨_, _, rfl, fun i hi => ⟨g, 0, rfl, ?_⟩, by omega⟩
    have key : ∀ j u, j < 11 → (ncl (D.getD i nz))[j]? = some u → w.cell? ⟨g, 0 + i * 11 + j, none⟩ = some u := fun j u hj hu => by
      have := World.ownsRow.cells h (g := g) rfl (i * 11 + j) u (by rw [ncls_get D i hi j hj]; exact hu)
      rwa [add_plain, ← Nat.add_assoc] at this
    exact ⟨key 0 _ (by omega) rfl, key 1 _ (by omega) rfl, key 2 _ (by omega) rfl, key 3 _ (by omega) rfl, key 4 _ (by omega) rfl, key 5 _ (by omega) rfl, key 6 _ (by omega) rfl, key 7 _ (by omega) rfl, key 8 _ (by omega) rfl, key 9 _ (by omega) rfl, key 10 _ (by omega) rfl⟩
theorem run_appn (w : World) (B : Nat) (ty : TypeId) (v : Value) (L : List Nd) (ho : RowN w B v L) (A : Option Addr) (m c : Nat) (M : List Nd) (hm : M.length = m) (hb : Nds w A M) (hc : A = none → c = 0)
    (hlen : L.length + m ≤ 1000000) (hB : B ≤ w.heap.size) :
    ∃ v' w', (Builtin.append_ #[26, 26] ty #[v, .slice A m c]).run Tryd.prog w = .ok v' w' ∧ RowN w' B v' (L ++ M) ∧ Below B w w' := by
  obtain ⟨i, hi, hz, hs, hy⟩ := infoN
  rcases A with _ | ad
  · obtain rfl := hc rfl
    have hl : M = [] := by
      rcases M with _ | ⟨x, M⟩
      · rfl
      · obtain ⟨b, off, h, _⟩ := hb 0 (by simp)
        cases h
    subst hl
    subst hm
    exact ⟨v, w, run_append_owned_none (P := Tryd.prog) (w := w) B 26 ty 39 i 11 Tryd.underlying26 hi v _ _ ho, by rw [List.append_nil]; exact ho, Below.refl _ _⟩
  · obtain ⟨v', w', h1, h2, h3, _⟩ := run_append_own (P := Tryd.prog) w B 26 ty 39 i (nOf nz) 11 96 Tryd.underlying26 hi hz hs hy rfl (by omega) v L.length (ncls L) ho ad m c (ncls M)
      (by rw [ncls_len, hm])
      (fun j u hj => by
        have hjl : j < M.length * 11 := by
          rcases Nat.lt_or_ge j (ncls M).length with h | h
          · rwa [ncls_len] at h
          · rw [List.getElem?_eq_none h] at hj; cases hj
        obtain ⟨b, off, h, c0, c1, c2, c3, c4, c5, c6, c7, c8, c9, c10⟩ := hb (j / 11) (by omega)
        injection h with h
        subst h
        rw [show j = j / 11 * 11 + j % 11 by omega, ncls_get M (j / 11) (by omega) (j % 11) (by omega)] at hj
        rw [add_plain, show off + j = off + j / 11 * 11 + j % 11 by omega]
        have h4 : j % 11 < 11 := by omega
        generalize j % 11 = p at hj h4
        rcases p with _ | _ | _ | _ | _ | _ | _ | _ | _ | _ | _ | p
        · rw [Nat.add_zero, c0]; exact hj
        · rw [c1]; exact hj
        · rw [c2]; exact hj
        · rw [c3]; exact hj
        · rw [c4]; exact hj
        · rw [c5]; exact hj
        · rw [c6]; exact hj
        · rw [c7]; exact hj
        · rw [c8]; exact hj
        · rw [c9]; exact hj
        · rw [c10]; exact hj
        · omega)
      (ncls_one M)
      (by unfold maxLen; omega) (by omega) hB
    refine ⟨v', w', h1, ?_, (Below.refl _ _).grown h3 hB (fun k hk => (World.ownsRow.lt ho k hk).1)⟩
    have : (L ++ M).length = L.length + m := by rw [List.length_append, hm]
    unfold RowN
    rw [this, ncls_app]
    exact h2
theorem wp_appns {ops : Array Oper} {rest : List Oper} {o : Oper} {a : Act} {Q : Exit → Act → World → Prop} (s x : Operand) (w : World) (hgd : o.guard = none)
    (hop : o.op = .call { callee := .builtin .append, args := #[s, x], argTypes := #[26, 26] })
    (B : Nat) (v : Value) (L : List Nd) (hs : a.eval s = v) (ho : RowN w B v L) (A : Option Addr) (m c : Nat) (M : List Nd) (hx : a.eval x = .slice A m c) (hm : M.length = m) (hb : Nds w A M) (hc : A = none → c = 0)
    (k : Nat) (hk : (L ++ M).length = k) (hlen : k ≤ 1000000) (hB : B ≤ w.heap.size)
    (h : ∀ A' c' w', RowN w' B (.slice A' k c') (L ++ M) → Below B w w' → wpList Tryd.prog ops Q rest (a.put o.dst (.slice A' k c')) w') : wpList Tryd.prog ops Q (o :: rest) a w := by
  refine wpList_plain hgd fun K hK => ?_
  have hlen2 : L.length + m ≤ 1000000 := by rw [List.length_append] at hk; omega
  obtain ⟨v', w', hrun, h2, h3⟩ := run_appn w B o.type v L ho A m c M hm hb hc hlen2 hB
  obtain ⟨A', c', rfl, hby⟩ := h2.form
  rw [hk] at h2 hrun
  unfold Oper.wp
  simp [execOp, hop, resolve, invoke, builtin, hs, hx, hrun, Result.andThen]
  exact hK _ _ (h A' c' w' h2 h3)
theorem RowN.one (w : World) (B : Nat) (hB : B ≤ w.heap.size) (n : Nd) : RowN (w.alloc (nobj n)) B (.slice (some ⟨w.heap.size, 0, none⟩) 1 1) [n] :=
  ⟨by simp [ncls, ncl], .inr ⟨w.heap.size, 1, _, rfl, hB, heap_alloc_new w _, Nat.le_refl _, by decide, rfl, rfl⟩⟩
set_option maxHeartbeats 1000000 in
theorem two_any (w : World) : Calls Tryd.prog 20 #[.int .u8 1, .int .u8 2] w fun e w' => (∃ g, e = .returned (ptv (some ⟨g, 0, none⟩) 3 3 10) ∧ Nds w' (some ⟨g, 0, none⟩) two) ∧ Below w.heap.size w w' := by
  go_enter Tryd.func20, Tryd.ntmps20
  go_wp2_with fail
  refine bodyPost_ret (v := ptv (some ⟨w.heap.size + 1, 0, none⟩) 3 3 10) (by simp [results, Tryd.results20, go_sem, *]) rfl ⟨⟨_, rfl, fun i hi => ⟨_, _, rfl, ?_⟩⟩, below_go (below_alloc w _) (below_alloc _ _)⟩
  have : i = 0 ∨ i = 1 ∨ i = 2 := by simp [two] at hi; omega
  rcases this with rfl | rfl | rfl <;> (refine ⟨?_, ?_, ?_, ?_, ?_, ?_, ?_, ?_, ?_, ?_, ?_⟩ <;> simp [go_sem])
structure FX (w W : World) (g1 g2 : Nat) (A A1 : Option Addr) (c1 : Nat) : Prop where
  p : PtB W g1 A 3 3 10
  q : PtB W g2 A1 4 c1 1
  n : Nds W A two
  m : Nds W A1 (rep :: two)
  b : Below w.heap.size w W
theorem FX.next {w W W' : World} {g1 g2 : Nat} {A A1 : Option Addr} {c1 : Nat} (h : FX w W g1 g2 A A1 c1) (hb : Below W.heap.size W W') : FX w W' g1 g2 A A1 c1 :=
  ⟨h.p.next hb, h.q.next hb, h.n.below hb, h.m.below hb, below_go h.b hb⟩
theorem nds_lt {w : World} {A : Option Addr} {D : List Nd} (h : Nds w A D) (hd : D ≠ []) : ∃ b off, A = some ⟨b, off, none⟩ ∧ b < w.heap.size := by
  rcases D with _ | ⟨x, D⟩
  · exact absurd rfl hd
  · obtain ⟨b, off, e, h⟩ := h 0 (by simp)
    exact ⟨b, off, e, h.lt⟩
theorem Nds.belowB {B : Nat} {w w' : World} {b off : Nat} {L : List Nd} (h : Nds w (some ⟨b, off, none⟩) L) (hb : Below B w w') (hB : b < B) : Nds w' (some ⟨b, off, none⟩) L := fun i hi => by
  obtain ⟨b', off', e, h⟩ := h i hi
  injection e with e
  injection e with e1 e2
  subst e1 e2
  exact ⟨b, off, rfl, h.below hb hB⟩
set_option maxHeartbeats 4000000 in
theorem tfixed_any (w : World) (hT : Tab w) : Calls Tryd.prog 7 #[] w fun e w' => e = .returned (.bool true) ∧ Below w.heap.size w w' := by
  have C0 := Lib.hid (two_any w)
  have C1 := Lib.hid (fun A W (hW : Below w.heap.size w W) (hN : Nds W A two) => tmay_any A 3 3 two 10 W (pln_two.pt rfl (by omega) (by omega) hN) (hT.below hW))
  have C2 := Lib.hid (fun A W (hW : Below w.heap.size w W) (hN : Nds W A two) => eplaces_any A 3 3 two 10 W (pln_two.pt rfl (by omega) (by omega) hN) (hT.below hW))
  have C3 := Lib.hid (fun A c W (hc : 4 ≤ c) (hW : Below w.heap.size w W) (hN : Nds W A (rep :: two)) => eplaces_any A 4 c (rep :: two) 1 W (pln_rep.pt rfl (by omega) hc hN) (hT.below hW))
  have C4 := Lib.hid (fun A c W (hc : 4 ≤ c) (hW : Below w.heap.size w W) (hN : Nds W A (rep :: two)) => edepth_any A 4 c (rep :: two) 1 W (pln_rep.pt rfl (by omega) hc hN) (hT.below hW))
  simp only [mp_two0, mp_rep0, if_true, plc_two 31, plc_rep 30, dpt_rep 30] at C1 C2 C3 C4
  clear hT
  go_enter Tryd.func7, Tryd.ntmps7
  go_wp2_with fail
  refine C0.out.mono ?_
  rintro e w2 ⟨⟨g, rfl, hN⟩, hb⟩
  have B2 := Lib.hid hb
  have N2 := Lib.hid hN
  clear hb hN C0
  have X0 := Lib.hid (PtB.alloc w2 (some ⟨g, 0, none⟩) 3 3 10)
  have B3 := Lib.hid (below_go B2.out (below_alloc w2 (ptobj (some ⟨g, 0, none⟩) 3 3 10)))
  have N3 := Lib.hid (N2.out.below (below_alloc w2 (ptobj (some ⟨g, 0, none⟩) 3 3 10)))
  have R0 : Hid (RowN ((w2.alloc (ptobj (some ⟨g, 0, none⟩) 3 3 10)).alloc (nobj rep)) (w2.heap.size + 1) (.slice (some ⟨w2.heap.size + 1, 0, none⟩) 1 1) [rep]) := Lib.hid (by have := RowN.one (w2.alloc (ptobj (some ⟨g, 0, none⟩) 3 3 10)) (w2.heap.size + 1) (by simp) rep; rw [World.size_alloc] at this; exact this)
  have N4 := Lib.hid (N3.out.below (below_alloc _ (nobj rep)))
  have B4 := Lib.hid (below_go B3.out (below_alloc _ (nobj rep)))
  have X4 := Lib.hid (X0.out.next (below_alloc _ (nobj rep)))
  have NG := Lib.hid (show g < w2.heap.size + 1 by obtain ⟨b, off, e, h⟩ := nds_lt N2.out (by simp); injection e with e; injection e with e1 e2; omega)
  have B0 : Hid (w.heap.size ≤ w2.heap.size + 1) := Lib.hid (by have := B2.out.size; omega)
  clear N3 B3 X0 N2
  go_wp2_with (at_builtin; (refine wp_appns (.tmp 5) (.tmp 7) _ (by rfl) (by rfl) (w2.heap.size + 1) _ [rep] (by rfl) R0.out _ 3 3 two (by rfl) rfl N4.out (by intro h; cases h) 4 rfl (by omega) (by simp) ?_); intro A1 c1 w5 hR hb; have X5 := X4.out.below hb (by omega); have b0 := X5.c0; have b1 := X5.c1; have z5 := X5.lt; have FX5 := Lib.hid (show FX w (w5.alloc (ptobj A1 4 c1 1)) w2.heap.size w5.heap.size (some ⟨g, 0, none⟩) A1 c1 from ⟨X5.next (below_alloc _ _), PtB.alloc _ _ _ _ _, (N4.out.belowB hb NG.out).below (below_alloc _ _), (by obtain ⟨A', c', e, h, _⟩ := hR.form; injection e with e1 e2 e3; subst e1; exact h.below (below_alloc _ _)), below_go (B4.out.trans (hb.mono B0.out)) (below_alloc _ _)⟩); have HC := Lib.hid (show 4 ≤ c1 by obtain ⟨A', c', e, _, h⟩ := hR.form; injection e with e1 e2 e3; subst e3; exact h); clear X5 hR hb)
  refine (C1.out _ _ FX5.out.b FX5.out.n).mono ?_
  rintro e w6 ⟨rfl, hb⟩
  have F6 := Lib.hid (FX5.out.next hb)
  have b0 := F6.out.p.c0
  have b1 := F6.out.p.c1
  clear hb FX5 X4 N4 B4 R0 C1
  go_wp2_with fail
  refine (C2.out _ _ F6.out.b F6.out.n).mono ?_
  rintro e w7 ⟨rfl, hb⟩
  have F7 := Lib.hid (F6.out.next hb)
  clear hb F6 b0 b1 C2
  have b0 := F7.out.q.c0
  have b1 := F7.out.q.c1
  go_wp2_with fail
  refine (C3.out _ _ _ HC.out F7.out.b F7.out.m).mono ?_
  rintro e w8 ⟨rfl, hb⟩
  have F8 := Lib.hid (F7.out.next hb)
  clear hb F7 b0 b1 C3
  have b0 := F8.out.q.c0
  have b1 := F8.out.q.c1
  go_wp2_with fail
  refine (C4.out _ _ _ HC.out F8.out.b F8.out.m).mono ?_
  rintro e w9 ⟨rfl, hb⟩
  have F9 := Lib.hid (F8.out.next hb)
  clear hb F8 b0 b1 C4
  go_wp2_with fail
  go_ret
  exact ⟨rfl, F9.out.b⟩
end Go.Proofs.YtnjndlbhnkhlhaaDoor
