/- Contracts, joined: TrT, TrW, TrX, TrY. -/
import Derived.Test.YtpnllbojifnopaaGreatDoorMT
import Derived.Test.YtpnllbojifnopaaGreatDoorPRE
/- The chapter's examples. -/
namespace Go.Proofs.YtpnllbojifnopaaGreatDoor
open Go Go.RowKit Pk Rl
set_option maxRecDepth 20000

abbrev one (t : Int) : Nd := ⟨1, ⟨false, t, none, 0, 0, []⟩, false, qz, 0, 0, 0⟩
abbrev two : List Nd := [⟨2, qz, false, qz, 0, 0, 2⟩, one 1, one 2]
abbrev rep : Nd := ⟨4, qz, false, qz, 2, 3, 3⟩
theorem frn_one (t : Int) (r : List Nd) : frn (one t :: r) = [one t] := by
  rw [frn_cons, if_neg (by simp)]; simp
theorem pts_one (t : Int) : pts [one t] = [] := by unfold pts; rw [frn_one, List.tail_cons, spl_nil]; rfl
theorem ofp_one (F : List Nd → Bool) (t : Int) : ofp F [one t] = true := by unfold ofp; rw [frn_one]; simp only [spl_nil]; rfl
theorem frn_two : frn two = two := by
  rw [frn_cons, if_neg (by simp)]; rfl
theorem spl_two : spl [one 1, one 2] = some [[one 1], [one 2]] := by
  rw [spl_cons _ (by simp), frn_one, if_neg (by simp)]
  show (spl [one 2]).map _ = _
  rw [spl_cons _ (by simp), frn_one, if_neg (by simp)]
  show ((spl []).map _).map _ = _
  rw [spl_nil]; rfl
theorem pts_two : pts two = [[one 1], [one 2]] := by unfold pts; rw [frn_two]; show (spl [one 1, one 2]).getD [] = _; rw [spl_two]; rfl
theorem ofp_two (F : List Nd → Bool) : ofp F two = (F [one 1] && (F [one 2] && true)) := by
  rw [ofp_cons (by rw [frn_two]; simp), frn_two]
  show (match spl [one 1, one 2] with | none => false | some ps => ps.all F) = _
  rw [spl_two]; rfl
theorem frn_rep : frn (rep :: two) = rep :: two := by
  rw [frn_cons, if_neg (by simp)]; rfl
theorem spl_rep : spl two = some [two] := by
  rw [spl_cons _ (by simp), frn_two, if_neg (by simp)]
  show (spl []).map _ = _
  rw [spl_nil]; rfl
theorem pts_rep : pts (rep :: two) = [two] := by unfold pts; rw [frn_rep]; show (spl two).getD [] = _; rw [spl_rep]; rfl
theorem ofp_rep (F : List Nd → Bool) : ofp F (rep :: two) = (F two && true) := by
  rw [ofp_cons (by rw [frn_rep]; simp), frn_rep]
  show (match spl two with | none => false | some ps => ps.all F) = _
  rw [spl_rep]; rfl
theorem fmd_one (k : Nat) (t : Int) : fmd (k + 1) [one t] = true := by
  show (ofp (fmd k) [one t] && kd (one t) (pts [one t]).length) = true
  rw [ofp_one, pts_one]; rfl
theorem fmd_two (k : Nat) : fmd (k + 2) two = true := by
  show (ofp (fmd (k + 1)) two && kd _ (pts two).length) = true
  rw [ofp_two, pts_two, fmd_one, fmd_one]; rfl
theorem fmd_rep (k : Nat) : fmd (k + 3) (rep :: two) = true := by
  show (ofp (fmd (k + 2)) (rep :: two) && kd _ (pts (rep :: two)).length) = true
  rw [ofp_rep, pts_rep, fmd_two]; rfl
theorem dpt_one (k : Nat) (t : Int) : dpt (k + 1) [one t] = 0 := by rw [dpt, pts_one]; rfl
theorem dpt_two (k : Nat) : dpt (k + 2) two = 1 := by
  rw [dpt, pts_two]
  simp only [List.foldl_cons, List.foldl_nil, dpt_one]; rfl
theorem dpt_rep (k : Nat) : dpt (k + 3) (rep :: two) = 2 := by
  rw [dpt, pts_rep]
  simp only [List.foldl_cons, List.foldl_nil, dpt_two]; rfl
theorem plc_one (k : Nat) (t : Int) : plc (k + 1) [one t] = 1 := by
  rw [plc]; exact if_pos rfl
theorem plc_two (k : Nat) : plc (k + 2) two = 2 := by
  rw [plc, pts_two]
  simp only [List.foldl_cons, List.foldl_nil, plc_one]
  show (if (2 : Int) = 1 then (1 : Int) else if (2 : Int) = 4 then _ else wrap64 (wrap64 (0 + 1) + 1)) = 2
  rw [if_neg (by decide), if_neg (by decide)]
  unfold wrap64; rfl
theorem plc_rep (k : Nat) : plc (k + 3) (rep :: two) = 6 := by
  rw [plc, pts_rep]
  simp only [List.foldl_cons, List.foldl_nil, plc_two]
  show (if (4 : Int) = 1 then (1 : Int) else if (4 : Int) = 4 then wrap64 (wrap64 (0 + 2) * 3) else _) = 6
  rw [if_neg (by decide), if_pos rfl]
  unfold wrap64; rfl
theorem mp_two0 : mp two 10 = 0 := by
  unfold mp
  rw [if_neg (by decide), if_neg (by rw [frn_two, fmd_two 31]; simp), if_neg (by decide), dpt_two 31, plc_two 31]; decide
theorem mp_rep0 : mp (rep :: two) 1 = 0 := by
  unfold mp
  rw [if_neg (by decide), if_neg (by rw [frn_rep, fmd_rep 30]; simp), if_neg (by decide), dpt_rep 30, plc_rep 30]; decide
/- nodes without tests -/
def Bare (q : Qu) : Prop := q.a = none ∧ q.n = 0 ∧ q.c = 0 ∧ q.L = []
theorem QB.bare {w : World} {B : Nat} {v : Value} {q : Qu} (h : Bare q) : QB w B v q := by
  obtain ⟨x, t, a, n, c, L⟩ := q
  obtain ⟨rfl, rfl, rfl, rfl⟩ := h
  exact ⟨OwnT.nil _ _, rfl, by simp, by simp, fun g hg => by cases hg⟩
theorem Qok.bare {w : World} {q : Qu} (h : Bare q) : Qok w q := by
  obtain ⟨x, t, a, n, c, L⟩ := q
  obtain ⟨rfl, rfl, rfl, rfl⟩ := h
  exact ⟨rfl, by simp, Tsts.nil _ _, by simp⟩
def Pln (D : List Nd) : Prop := ∀ v ∈ D, Bare v.p ∧ Bare v.g ∧ Rg v
theorem Pln.pt {w : World} {A : Option Addr} {n c : Nat} {D : List Nd} (h : Pln D) (hl : D.length = n) (hn : n ≤ 1000) (hc : n ≤ c) (hr : Nds w A D) : Pt w A n c D :=
  ⟨hl, hn, hc, hr, fun v hv => by obtain ⟨q1, q2, r⟩ := h v hv; exact ⟨Qok.bare q1, Qok.bare q2, r.k0, r.k1, r.l0, r.l1, r.h0, r.h1, r.s0, r.s1⟩⟩
theorem pln_one (t : Int) : Bare (one t).p ∧ Bare (one t).g ∧ Rg (one t) := ⟨⟨rfl, rfl, rfl, rfl⟩, ⟨rfl, rfl, rfl, rfl⟩, by simp, by simp, by simp, by simp, by simp, by simp, by simp, by simp⟩
theorem pln_two : Pln two := by
  intro v hv
  simp only [two, List.mem_cons, List.not_mem_nil, or_false] at hv
  rcases hv with rfl | rfl | rfl
  · exact ⟨⟨rfl, rfl, rfl, rfl⟩, ⟨rfl, rfl, rfl, rfl⟩, by decide, by decide, by decide, by decide, by decide, by decide, by decide, by decide⟩
  · exact pln_one 1
  · exact pln_one 2
theorem pln_rep : Pln (rep :: two) := by
  intro v hv
  rcases List.mem_cons.1 hv with rfl | hv
  · exact ⟨⟨rfl, rfl, rfl, rfl⟩, ⟨rfl, rfl, rfl, rfl⟩, by decide, by decide, by decide, by decide, by decide, by decide, by decide, by decide⟩
  · exact pln_two v hv
/- rows of nodes of one's own, by cells alone; many appended at once -/
def RowN (w : World) (B : Nat) (v : Value) (D : List Nd) : Prop := w.ownsRow B 57 11 v D.length (ncls D)
theorem RowN.form {w : World} {B : Nat} {v : Value} {D : List Nd} (h : RowN w B v D) : ∃ A c, v = .slice A D.length c ∧ Nds w A D ∧ D.length ≤ c := by
  rcases h.2 with ⟨rfl, h0⟩ | ⟨g, cap, cur, rfl, _, _, hcap, _⟩
  · have : D = [] := List.eq_nil_of_length_eq_zero h0
    subst this
    exact ⟨none, 0, rfl, Nds.nil _ _, Nat.le_refl _⟩
  · refine ⟨_, _, rfl, fun i hi => ⟨g, 0, rfl, ?_⟩, by omega⟩
    have key : ∀ j u, j < 11 → (ncl (D.getD i nz))[j]? = some u → w.cell? ⟨g, 0 + i * 11 + j, none⟩ = some u := fun j u hj hu => by
      have := World.ownsRow.cells h (g := g) rfl (i * 11 + j) u (by rw [ncls_get D i hi j hj]; exact hu)
      rwa [add_plain, ← Nat.add_assoc] at this
    exact ⟨key 0 _ (by omega) rfl, key 1 _ (by omega) rfl, key 2 _ (by omega) rfl, key 3 _ (by omega) rfl, key 4 _ (by omega) rfl, key 5 _ (by omega) rfl, key 6 _ (by omega) rfl, key 7 _ (by omega) rfl, key 8 _ (by omega) rfl, key 9 _ (by omega) rfl, key 10 _ (by omega) rfl⟩
theorem run_appn (w : World) (B : Nat) (ty : TypeId) (v : Value) (L : List Nd) (ho : RowN w B v L) (A : Option Addr) (m c : Nat) (M : List Nd) (hm : M.length = m) (hb : Nds w A M) (hc : A = none → c = 0)
    (hlen : L.length + m ≤ 1000000) (hB : B ≤ w.heap.size) :
    ∃ v' w', (Builtin.append_ #[26, 26] ty #[v, .slice A m c]).run Tryz.prog w = .ok v' w' ∧ RowN w' B v' (L ++ M) ∧ Below B w w' := by
  obtain ⟨i, hi, hz, hs, hy⟩ := infoN
  rcases A with _ | ad
  · obtain rfl := hc rfl
    have hl : M = [] := by
      rcases M with _ | ⟨x, M⟩
      · rfl
      · obtain ⟨b, off, h, _⟩ := hb 0 (by simp)
        cases h
    subst hl
    subst hm
    exact ⟨v, w, run_append_owned_none (P := Tryz.prog) (w := w) B 26 ty 57 i 11 Tryz.underlying26 hi v _ _ ho, by rw [List.append_nil]; exact ho, Below.refl _ _⟩
  · obtain ⟨v', w', h1, h2, h3, _⟩ := run_append_own (P := Tryz.prog) w B 26 ty 57 i (nOf nz) 11 96 Tryz.underlying26 hi hz hs hy rfl (by omega) v L.length (ncls L) ho ad m c (ncls M)
      (by rw [ncls_len, hm])
      (fun j u hj => by
        have hjl : j < M.length * 11 := by
          rcases Nat.lt_or_ge j (ncls M).length with h | h
          · rwa [ncls_len] at h
          · rw [List.getElem?_eq_none h] at hj; cases hj
        obtain ⟨b, off, h, c0, c1, c2, c3, c4, c5, c6, c7, c8, c9, c10⟩ := hb (j / 11) (by omega)
        injection h with h
        subst h
        rw [show j = j / 11 * 11 + j % 11 by omega, ncls_get M (j / 11) (by omega) (j % 11) (by omega)] at hj
        rw [add_plain, show off + j = off + j / 11 * 11 + j % 11 by omega]
        have h4 : j % 11 < 11 := by omega
        generalize j % 11 = p at hj h4
        rcases p with _ | _ | _ | _ | _ | _ | _ | _ | _ | _ | _ | p
        · rw [Nat.add_zero, c0]; exact hj
        · rw [c1]; exact hj
        · rw [c2]; exact hj
        · rw [c3]; exact hj
        · rw [c4]; exact hj
        · rw [c5]; exact hj
        · rw [c6]; exact hj
        · rw [c7]; exact hj
        · rw [c8]; exact hj
        · rw [c9]; exact hj
        · rw [c10]; exact hj
        · omega)
      (ncls_one M)
      (by unfold maxLen; omega) (by omega) hB
    refine ⟨v', w', h1, ?_, (Below.refl _ _).grown h3 hB (fun k hk => (World.ownsRow.lt ho k hk).1)⟩
    have : (L ++ M).length = L.length + m := by rw [List.length_append, hm]
    unfold RowN
    rw [this, ncls_app]
    exact h2
theorem wp_appns {ops : Array Oper} {rest : List Oper} {o : Oper} {a : Act} {Q : Exit → Act → World → Prop} (s x : Operand) (w : World) (hgd : o.guard = none)
    (hop : o.op = .call { callee := .builtin .append, args := #[s, x], argTypes := #[26, 26] })
    (B : Nat) (v : Value) (L : List Nd) (hs : a.eval s = v) (ho : RowN w B v L) (A : Option Addr) (m c : Nat) (M : List Nd) (hx : a.eval x = .slice A m c) (hm : M.length = m) (hb : Nds w A M) (hc : A = none → c = 0)
    (k : Nat) (hk : (L ++ M).length = k) (hlen : k ≤ 1000000) (hB : B ≤ w.heap.size)
    (h : ∀ A' c' w', RowN w' B (.slice A' k c') (L ++ M) → Below B w w' → wpList Tryz.prog ops Q rest (a.put o.dst (.slice A' k c')) w') : wpList Tryz.prog ops Q (o :: rest) a w := by
  refine wpList_plain hgd fun K hK => ?_
  have hlen2 : L.length + m ≤ 1000000 := by rw [List.length_append] at hk; omega
  obtain ⟨v', w', hrun, h2, h3⟩ := run_appn w B o.type v L ho A m c M hm hb hc hlen2 hB
  obtain ⟨A', c', rfl, hby⟩ := h2.form
  rw [hk] at h2 hrun
  unfold Oper.wp
  simp [execOp, hop, resolve, invoke, builtin, hs, hx, hrun, Result.andThen]
  exact hK _ _ (h A' c' w' h2 h3)
theorem RowN.one (w : World) (B : Nat) (hB : B ≤ w.heap.size) (n : Nd) : RowN (w.alloc (nobj n)) B (.slice (some ⟨w.heap.size, 0, none⟩) 1 1) [n] :=
  ⟨by simp [ncls, ncl], .inr ⟨w.heap.size, 1, _, rfl, hB, heap_alloc_new w _, Nat.le_refl _, by decide, rfl, rfl⟩⟩
structure FX (w W : World) (g1 g2 : Nat) (A A1 : Option Addr) (c1 : Nat) : Prop where
  p : PtB W g1 A 3 3 10
  q : PtB W g2 A1 4 c1 1
  n : Nds W A two
  m : Nds W A1 (rep :: two)
  b : Below w.heap.size w W
theorem FX.next {w W W' : World} {g1 g2 : Nat} {A A1 : Option Addr} {c1 : Nat} (h : FX w W g1 g2 A A1 c1) (hb : Below W.heap.size W W') : FX w W' g1 g2 A A1 c1 :=
  ⟨h.p.next hb, h.q.next hb, h.n.below hb, h.m.below hb, below_go h.b hb⟩
theorem nds_lt {w : World} {A : Option Addr} {D : List Nd} (h : Nds w A D) (hd : D ≠ []) : ∃ b off, A = some ⟨b, off, none⟩ ∧ b < w.heap.size := by
  rcases D with _ | ⟨x, D⟩
  · exact absurd rfl hd
  · obtain ⟨b, off, e, h⟩ := h 0 (by simp)
    exact ⟨b, off, e, h.lt⟩
theorem Nds.belowB {B : Nat} {w w' : World} {b off : Nat} {L : List Nd} (h : Nds w (some ⟨b, off, none⟩) L) (hb : Below B w w') (hB : b < B) : Nds w' (some ⟨b, off, none⟩) L := fun i hi => by
  obtain ⟨b', off', e, h⟩ := h i hi
  injection e with e
  injection e with e1 e2
  subst e1 e2
  exact ⟨b, off, rfl, h.below hb hB⟩
end Go.Proofs.YtpnllbojifnopaaGreatDoor

/- Same: of two nodes; the program's and the document's. -/
namespace Go.Proofs.YtpnllbojifnopaaGreatDoor
open Go Go.RowKit Pk Rl
set_option maxRecDepth 20000

theorem smt_self (t : TT) : smt t t = true := by
  unfold smt
  have := sm_self t.2.2.1 t.2.2.2.1 t.2.2.2.2.1 t.2.2.2.2.2
  simp only [decide_true, Bool.true_and]
  exact this
theorem psm_self (x : Bool) (t : Int) (L : List TT) : psm x t L x t L = true := by
  unfold psm
  simp only [decide_true, Bool.true_and]
  rw [List.all_eq_true]
  exact fun j _ => smt_self _
def sn (x y : Nd) : Bool := (x.k == y.k) && ((x.s == y.s) && ((x.lo == y.lo) && ((x.hi == y.hi) && ((x.y == y.y) && (psm x.p.x x.p.t x.p.L y.p.x y.p.t y.p.L && psm x.g.x x.g.t x.g.L y.g.x y.g.t y.g.L)))))
theorem cn_inj {x y : Nd} (h : cn 10 x = cn 10 y) (hx : x.p.L.length ≤ 10 ∧ x.g.L.length ≤ 10) (hy : y.p.L.length ≤ 10 ∧ y.g.L.length ≤ 10) :
    x.k = y.k ∧ x.p.x = y.p.x ∧ x.p.t = y.p.t ∧ x.p.L = y.p.L ∧ x.y = y.y ∧ x.g.x = y.g.x ∧ x.g.t = y.g.t ∧ x.g.L = y.g.L ∧ x.lo = y.lo ∧ x.hi = y.hi ∧ x.s = y.s := by
  unfold cn cq at h
  simp only [Prod.mk.injEq] at h
  obtain ⟨a1, ⟨a2, a3, a4⟩, a5, ⟨a6, a7, a8⟩, a9, a10, a11⟩ := h
  rw [List.take_of_length_le hx.1, List.take_of_length_le hy.1] at a4
  rw [List.take_of_length_le hx.2, List.take_of_length_le hy.2] at a8
  exact ⟨a1, a2, a3, a4, a5, a6, a7, a8, a9, a10, a11⟩
theorem sn_cn {x y : Nd} (h : cn 10 x = cn 10 y) (hx : x.p.L.length ≤ 10 ∧ x.g.L.length ≤ 10) (hy : y.p.L.length ≤ 10 ∧ y.g.L.length ≤ 10) : sn x y = true := by
  obtain ⟨a1, a2, a3, a4, a5, a6, a7, a8, a9, a10, a11⟩ := cn_inj h hx hy
  unfold sn
  rw [a1, a2, a3, a4, a5, a6, a7, a8, a9, a10, a11, psm_self, psm_self]
  simp
structure N2x (w W : World) (x y : Nd) : Prop where
  one : Atn W w.heap.size 0 x
  two : Atn W (w.heap.size + 1) 0 y
  bel : Below w.heap.size w W
theorem N2x.next {w W W' : World} {x y : Nd} (h : N2x w W x y) (hb : Below W.heap.size W W') : N2x w W' x y := ⟨h.one.below hb h.one.lt, h.two.below hb h.two.lt, below_go h.bel hb⟩
theorem N2x.start (w : World) (x y : Nd) : N2x w ((w.alloc (nobj x)).alloc (nobj y)) x y := by
  have h1 := (Atn.alloc w x).below (below_alloc _ (nobj y)) (by rw [World.size_alloc]; omega)
  have h2 := Atn.alloc (w.alloc (nobj x)) y
  rw [World.size_alloc] at h2
  exact ⟨h1, h2, below2 w _ _⟩
set_option maxHeartbeats 4000000 in
theorem rsameNode_any (x y : Nd) (w : World) (hx : Nok w x) (hy : Nok w y) :
    Calls Tryz.prog 91 #[nOf x, nOf y] w fun e w' => e = .returned (.bool (sn x y)) ∧ Below w.heap.size w w' := by
  have K0 := Lib.hid (N2x.start w x y)
  have BB := Lib.hid (below2 w (nobj x) (nobj y))
  have MP := Lib.hid (fun W (hb : Below w.heap.size w W) => rpsame_any x.p.x x.p.t x.p.a x.p.n x.p.c x.p.L y.p.x y.p.t y.p.a y.p.n y.p.c y.p.L W hx.p.len hy.p.len (by have := hx.p.few; omega) (hx.p.row.below hb) (hy.p.row.below hb) hx.p.ok hy.p.ok)
  have MG := Lib.hid (fun W (hb : Below w.heap.size w W) => rpsame_any x.g.x x.g.t x.g.a x.g.n x.g.c x.g.L y.g.x y.g.t y.g.a y.g.n y.g.c y.g.L W hx.g.len hy.g.len (by have := hx.g.few; omega) (hx.g.row.below hb) (hy.g.row.below hb) hx.g.ok hy.g.ok)
  obtain ⟨R, hR⟩ : ∃ R, sn x y = R := ⟨_, rfl⟩
  rw [hR]
  unfold sn at hR
  have HR := Lib.hid hR
  clear hx hy hR
  generalize psm x.p.x x.p.t x.p.L y.p.x y.p.t y.p.L = m1 at MP HR
  generalize psm x.g.x x.g.t x.g.L y.g.x y.g.t y.g.L = m2 at MG HR
  obtain ⟨xk, ⟨xx, xt, xa, xn, xc, xL⟩, xy, ⟨yx, yt, ya, yn, yc, yL⟩, xlo, xhi, xs⟩ := x
  obtain ⟨zk, ⟨zx, zt, za, zn, zc, zL⟩, zy, ⟨ux, ut, ua, un, uc, uL⟩, zlo, zhi, zs⟩ := y
  simp only at MP MG HR
  obtain ⟨bk, hk⟩ : ∃ b, (xk == zk) = b := ⟨_, rfl⟩
  obtain ⟨bs, hs⟩ : ∃ b, (xs == zs) = b := ⟨_, rfl⟩
  obtain ⟨blo, hlo⟩ : ∃ b, (xlo == zlo) = b := ⟨_, rfl⟩
  obtain ⟨bhi, hhi⟩ : ∃ b, (xhi == zhi) = b := ⟨_, rfl⟩
  obtain ⟨bgy, hgy⟩ : ∃ b, (xy == zy) = b := ⟨_, rfl⟩
  rw [hk, hs, hlo, hhi, hgy] at HR
  cases bk
  · have HR1 := HR.out
    simp only [Bool.false_and] at HR1
    subst HR1
    clear HR MP MG
    obtain ⟨⟨q0, q1, q2, q3, q4, q5, q6, q7, q8, q9, q10⟩, ⟨r0, r1, r2, r3, r4, r5, r6, r7, r8, r9, r10⟩, _⟩ := K0.out
    simp only at q0 q1 q2 q3 q4 q5 q6 q7 q8 q9 q10 r0 r1 r2 r3 r4 r5 r6 r7 r8 r9 r10
    go_enter Tryz.func91, Tryz.ntmps91
    go_wp2_with fail
    go_ret
    exact ⟨rfl, BB.out⟩
  cases bgy
  · have HR1 := HR.out
    simp only [Bool.false_and, Bool.and_false] at HR1
    subst HR1
    clear HR MP MG
    obtain ⟨⟨q0, q1, q2, q3, q4, q5, q6, q7, q8, q9, q10⟩, ⟨r0, r1, r2, r3, r4, r5, r6, r7, r8, r9, r10⟩, _⟩ := K0.out
    simp only at q0 q1 q2 q3 q4 q5 q6 q7 q8 q9 q10 r0 r1 r2 r3 r4 r5 r6 r7 r8 r9 r10
    go_enter Tryz.func91, Tryz.ntmps91
    go_wp2_with fail
    go_ret
    exact ⟨rfl, BB.out⟩
  cases blo
  · have HR1 := HR.out
    simp only [Bool.false_and, Bool.and_false] at HR1
    subst HR1
    clear HR MP MG
    obtain ⟨⟨q0, q1, q2, q3, q4, q5, q6, q7, q8, q9, q10⟩, ⟨r0, r1, r2, r3, r4, r5, r6, r7, r8, r9, r10⟩, _⟩ := K0.out
    simp only at q0 q1 q2 q3 q4 q5 q6 q7 q8 q9 q10 r0 r1 r2 r3 r4 r5 r6 r7 r8 r9 r10
    go_enter Tryz.func91, Tryz.ntmps91
    go_wp2_with fail
    go_ret
    exact ⟨rfl, BB.out⟩
  cases bhi
  · have HR1 := HR.out
    simp only [Bool.false_and, Bool.and_false] at HR1
    subst HR1
    clear HR MP MG
    obtain ⟨⟨q0, q1, q2, q3, q4, q5, q6, q7, q8, q9, q10⟩, ⟨r0, r1, r2, r3, r4, r5, r6, r7, r8, r9, r10⟩, _⟩ := K0.out
    simp only at q0 q1 q2 q3 q4 q5 q6 q7 q8 q9 q10 r0 r1 r2 r3 r4 r5 r6 r7 r8 r9 r10
    go_enter Tryz.func91, Tryz.ntmps91
    go_wp2_with fail
    go_ret
    exact ⟨rfl, BB.out⟩
  cases bs
  · have HR1 := HR.out
    simp only [Bool.false_and, Bool.and_false] at HR1
    subst HR1
    clear HR MP MG
    obtain ⟨⟨q0, q1, q2, q3, q4, q5, q6, q7, q8, q9, q10⟩, ⟨r0, r1, r2, r3, r4, r5, r6, r7, r8, r9, r10⟩, _⟩ := K0.out
    simp only at q0 q1 q2 q3 q4 q5 q6 q7 q8 q9 q10 r0 r1 r2 r3 r4 r5 r6 r7 r8 r9 r10
    go_enter Tryz.func91, Tryz.ntmps91
    go_wp2_with fail
    go_ret
    exact ⟨rfl, BB.out⟩
  simp only [Bool.true_and] at HR
  go_enter Tryz.func91, Tryz.ntmps91
  go_wp2_with fail
  refine (MP.out _ BB.out).mono ?_
  rintro e w2 ⟨rfl, hb⟩
  have K2 := Lib.hid (K0.out.next hb)
  have B2 := Lib.hid (below_go BB.out hb)
  clear hb MP K0 BB
  cases m1
  · have HR1 := HR.out
    simp only [Bool.false_and] at HR1
    subst HR1
    clear HR MG
    go_wp2_with fail
    go_ret
    exact ⟨rfl, B2.out⟩
  obtain ⟨⟨q0, q1, q2, q3, q4, q5, q6, q7, q8, q9, q10⟩, ⟨r0, r1, r2, r3, r4, r5, r6, r7, r8, r9, r10⟩, _⟩ := K2.out
  simp only at q0 q1 q2 q3 q4 q5 q6 q7 q8 q9 q10 r0 r1 r2 r3 r4 r5 r6 r7 r8 r9 r10
  simp only [Bool.true_and] at HR
  have HR1 := HR.out
  subst HR1
  go_wp2_with fail
  refine (MG.out _ B2.out).mono ?_
  rintro e w3 ⟨rfl, hb⟩
  have B3 := Lib.hid (below_go B2.out hb)
  clear hb MG K2 B2 q0 q1 q2 q3 q4 q5 q6 q7 q8 q9 q10 r0 r1 r2 r3 r4 r5 r6 r7 r8 r9 r10
  go_wp2_with fail
  go_ret
  exact ⟨rfl, B3.out⟩
end Go.Proofs.YtpnllbojifnopaaGreatDoor

/- Same: of rows of nodes, and of patterns; the program's and the document's. -/
namespace Go.Proofs.YtpnllbojifnopaaGreatDoor
open Go Go.RowKit Pk Rl
set_option maxRecDepth 20000

def ssn (D E : List Nd) : Bool := decide (D.length = E.length) && (List.range D.length).all (fun i => sn (D.getD i nz) (E.getD i nz))
theorem ssn_yes {D E : List Nd} {n : Nat} (hd : D.length = n) (he : E.length = n) (h : ∀ i, i < n → sn (D.getD i nz) (E.getD i nz) = true) : ssn D E = true := by
  unfold ssn
  rw [hd, he, decide_eq_true rfl, Bool.true_and, List.all_eq_true]
  exact fun i hi => h i (List.mem_range.1 hi)
theorem ssn_no {D E : List Nd} {n : Nat} (hd : D.length = n) (i : Nat) (hi : i < n) (h : sn (D.getD i nz) (E.getD i nz) = false) : ssn D E = false := by
  unfold ssn
  rw [hd]
  have : (List.range n).all (fun i => sn (D.getD i nz) (E.getD i nz)) = false := by
    rw [List.all_eq_false]
    exact ⟨i, List.mem_range.2 hi, by rw [h]; simp⟩
  rw [this, Bool.and_false]
theorem ssn_len {D E : List Nd} (h : D.length ≠ E.length) : ssn D E = false := by unfold ssn; rw [decide_eq_false h, Bool.false_and]
theorem ssn_cn {D E : List Nd} {n : Nat} (hd : D.length = n) (he : E.length = n) (h : ∀ i, i < n → cn 10 (D.getD i nz) = cn 10 (E.getD i nz)) (h1 : ∀ v ∈ D, v.p.L.length ≤ 10 ∧ v.g.L.length ≤ 10) (h2 : ∀ v ∈ E, v.p.L.length ≤ 10 ∧ v.g.L.length ≤ 10) : ssn D E = true :=
  ssn_yes hd he fun i hi => sn_cn (h i hi) (h1 _ (ngetD_mem D i (by omega))) (h2 _ (ngetD_mem E i (by omega)))
abbrev K2n (w W : World) (b o b2 o2 : Nat) (x y : Nd) : Prop := W.cell? ⟨b, o, none⟩ = some (.int .u8 x.k) ∧ W.cell? ⟨b, o + 1, none⟩ = some (.bool x.p.x) ∧ W.cell? ⟨b, o + 2, none⟩ = some (.int .u8 x.p.t) ∧ W.cell? ⟨b, o + 3, none⟩ = some (.slice x.p.a x.p.n x.p.c) ∧ W.cell? ⟨b, o + 4, none⟩ = some (.bool x.y) ∧ W.cell? ⟨b, o + 5, none⟩ = some (.bool x.g.x) ∧ W.cell? ⟨b, o + 6, none⟩ = some (.int .u8 x.g.t) ∧ W.cell? ⟨b, o + 7, none⟩ = some (.slice x.g.a x.g.n x.g.c) ∧ W.cell? ⟨b, o + 8, none⟩ = some (.int .u8 x.lo) ∧ W.cell? ⟨b, o + 9, none⟩ = some (.int .u8 x.hi) ∧ W.cell? ⟨b, o + 10, none⟩ = some (.int .i64 x.s) ∧ W.cell? ⟨b2, o2, none⟩ = some (.int .u8 y.k) ∧ W.cell? ⟨b2, o2 + 1, none⟩ = some (.bool y.p.x) ∧ W.cell? ⟨b2, o2 + 2, none⟩ = some (.int .u8 y.p.t) ∧ W.cell? ⟨b2, o2 + 3, none⟩ = some (.slice y.p.a y.p.n y.p.c) ∧ W.cell? ⟨b2, o2 + 4, none⟩ = some (.bool y.y) ∧ W.cell? ⟨b2, o2 + 5, none⟩ = some (.bool y.g.x) ∧ W.cell? ⟨b2, o2 + 6, none⟩ = some (.int .u8 y.g.t) ∧ W.cell? ⟨b2, o2 + 7, none⟩ = some (.slice y.g.a y.g.n y.g.c) ∧ W.cell? ⟨b2, o2 + 8, none⟩ = some (.int .u8 y.lo) ∧ W.cell? ⟨b2, o2 + 9, none⟩ = some (.int .u8 y.hi) ∧ W.cell? ⟨b2, o2 + 10, none⟩ = some (.int .i64 y.s) ∧ Hid (Below w.heap.size w W)
theorem k2n_of {w W : World} {b o b2 o2 : Nat} {x y : Nd} (h1 : Atn W b o x) (h2 : Atn W b2 o2 y) (h : Below w.heap.size w W) : K2n w W b o b2 o2 x y := by
  obtain ⟨q0, q1, q2, q3, q4, q5, q6, q7, q8, q9, q10⟩ := h1
  obtain ⟨r0, r1, r2, r3, r4, r5, r6, r7, r8, r9, r10⟩ := h2
  exact ⟨q0, q1, q2, q3, q4, q5, q6, q7, q8, q9, q10, r0, r1, r2, r3, r4, r5, r6, r7, r8, r9, r10, Lib.hid h⟩
theorem k2n_next {w W W' : World} {b o b2 o2 : Nat} {x y : Nd} (hb : Below W.heap.size W W') (h : K2n w W b o b2 o2 x y) : K2n w W' b o b2 o2 x y := by
  obtain ⟨q0, q1, q2, q3, q4, q5, q6, q7, q8, q9, q10, r0, r1, r2, r3, r4, r5, r6, r7, r8, r9, r10, h⟩ := h
  have h1 : Atn W b o x := ⟨q0, q1, q2, q3, q4, q5, q6, q7, q8, q9, q10⟩
  have h2 : Atn W b2 o2 y := ⟨r0, r1, r2, r3, r4, r5, r6, r7, r8, r9, r10⟩
  exact k2n_of (h1.below hb h1.lt) (h2.below hb h2.lt) (below_go h.out hb)
set_option maxHeartbeats 4000000 in
theorem rsameNodes_any (a : Option Addr) (n c : Nat) (D : List Nd) (a' : Option Addr) (n' c' : Nat) (E : List Nd) (w : World) (hP : Pt w a n c D) (hQ : Pt w a' n' c' E) :
    Calls Tryz.prog 53 #[.slice a n c, .slice a' n' c'] w fun e w' => e = .returned (.bool (ssn D E)) ∧ Below w.heap.size w w' := by
  have HP := Lib.hid hP
  have HQ := Lib.hid hQ
  have hdl := hP.len
  have hel := hQ.len
  have hfew := hP.few
  have hfew2 := hQ.few
  clear hP hQ
  by_cases cl : n = n'
  · subst cl
    have YES := Lib.hid (fun h => ssn_yes hdl hel h)
    have NO := Lib.hid (fun i hi h => ssn_no (E := E) hdl i hi h)
    have nn : ((n : Int) != (n : Int)) = false := by simp
    clear hdl hel
    generalize ssn D E = R at YES NO
    go_enter Tryz.func53, Tryz.ntmps53
    go_wp2_with fail
    go_loopw [13] (fun v W => ∃ (i : Nat), v = .int .i64 (i : Int) ∧ i ≤ n ∧ Hid (Below w.heap.size w W ∧ ∀ j, j < i → sn (D.getD j nz) (E.getD j nz) = true)) (fun v _ => n - (intOf v).toNat)
    case atStart => exact ⟨0, rfl, by omega, Lib.hid ⟨Below.refl _ _, fun j hj => by omega⟩⟩
    case round =>
      obtain ⟨i, rfl, hi, H⟩ := hrel
      have B1 := Lib.hid H.out.1
      have HD := Lib.hid H.out.2
      clear H
      by_cases ci : i < n
      · obtain ⟨b, off, rfl, hat⟩ := (HP.out.row.below B1.out) i (by have := HP.out.len; omega)
        obtain ⟨b2, off2, rfl, hat2⟩ := (HQ.out.row.below B1.out) i (by have := HQ.out.len; omega)
        have N1 := Lib.hid (HP.out.ok (D.getD i nz) (ngetD_mem D i (by have := HP.out.len; omega)))
        have N2 := Lib.hid (HQ.out.ok (E.getD i nz) (ngetD_mem E i (by have := HQ.out.len; omega)))
        obtain ⟨x, hx⟩ : ∃ x, D.getD i nz = x := ⟨_, rfl⟩
        obtain ⟨y, hy⟩ : ∃ y, E.getD i nz = y := ⟨_, rfl⟩
        rw [hx] at hat N1
        rw [hy] at hat2 N2
        have S := Lib.hid (fun W (hW : Below w.heap.size w W) => rsameNode_any x y W (N1.out.below hW) (N2.out.below hW))
        obtain ⟨z, hz⟩ : ∃ z, sn x y = z := ⟨_, rfl⟩
        rw [hz] at S
        have TA := Lib.hid (show z = true → ∀ j, j < i + 1 → sn (D.getD j nz) (E.getD j nz) = true from fun h j hj => by
          by_cases e : j = i
          · subst e; rw [hx, hy, hz, h]
          · exact HD.out j (by omega))
        have TB := Lib.hid (show z = false → R = false from fun h => NO.out i ci (by rw [hx, hy, hz, h]))
        clear hx hy hz HD N1 N2
        obtain ⟨xk, ⟨xx, xt, xa, xn, xc, xL⟩, xy, ⟨yx, yt, ya, yn, yc, yL⟩, xlo, xhi, xs⟩ := x
        obtain ⟨zk, ⟨zx, zt, za, zn, zc, zL⟩, zy, ⟨ux, ut, ua, un, uc, uL⟩, zlo, zhi, zs⟩ := y
        have KD := Lib.hid (k2n_next (Below.refl _ _).drew (k2n_of hat hat2 B1.out))
        have BD := Lib.hid (B1.out.trans (Below.refl _ _).drew)
        obtain ⟨q0, q1, q2, q3, q4, q5, q6, q7, q8, q9, q10⟩ := hat
        obtain ⟨r0, r1, r2, r3, r4, r5, r6, r7, r8, r9, r10⟩ := hat2
        simp only at q0 q1 q2 q3 q4 q5 q6 q7 q8 q9 q10 r0 r1 r2 r3 r4 r5 r6 r7 r8 r9 r10
        go_wp2_with fail
        go_region_held3 (fun W => W.cell? ⟨b, off + i * 11, none⟩ = some (.int .u8 xk) ∧ W.cell? ⟨b, off + i * 11 + 1, none⟩ = some (.bool xx) ∧ W.cell? ⟨b, off + i * 11 + 2, none⟩ = some (.int .u8 xt) ∧ W.cell? ⟨b, off + i * 11 + 3, none⟩ = some (.slice xa xn xc) ∧ W.cell? ⟨b, off + i * 11 + 4, none⟩ = some (.bool xy) ∧ W.cell? ⟨b, off + i * 11 + 5, none⟩ = some (.bool yx) ∧ W.cell? ⟨b, off + i * 11 + 6, none⟩ = some (.int .u8 yt) ∧ W.cell? ⟨b, off + i * 11 + 7, none⟩ = some (.slice ya yn yc) ∧ W.cell? ⟨b, off + i * 11 + 8, none⟩ = some (.int .u8 xlo) ∧ W.cell? ⟨b, off + i * 11 + 9, none⟩ = some (.int .u8 xhi) ∧ W.cell? ⟨b, off + i * 11 + 10, none⟩ = some (.int .i64 xs) ∧ W.cell? ⟨b2, off2 + i * 11, none⟩ = some (.int .u8 zk) ∧ W.cell? ⟨b2, off2 + i * 11 + 1, none⟩ = some (.bool zx) ∧ W.cell? ⟨b2, off2 + i * 11 + 2, none⟩ = some (.int .u8 zt) ∧ W.cell? ⟨b2, off2 + i * 11 + 3, none⟩ = some (.slice za zn zc) ∧ W.cell? ⟨b2, off2 + i * 11 + 4, none⟩ = some (.bool zy) ∧ W.cell? ⟨b2, off2 + i * 11 + 5, none⟩ = some (.bool ux) ∧ W.cell? ⟨b2, off2 + i * 11 + 6, none⟩ = some (.int .u8 ut) ∧ W.cell? ⟨b2, off2 + i * 11 + 7, none⟩ = some (.slice ua un uc) ∧ W.cell? ⟨b2, off2 + i * 11 + 8, none⟩ = some (.int .u8 zlo) ∧ W.cell? ⟨b2, off2 + i * 11 + 9, none⟩ = some (.int .u8 zhi) ∧ W.cell? ⟨b2, off2 + i * 11 + 10, none⟩ = some (.int .i64 zs) ∧ Hid (Below w.heap.size w W))
          (first | (with_reducible assumption) | (with_reducible exact KD.out) | (with_reducible exact k2n_next (x := ⟨xk, ⟨xx, xt, xa, xn, xc, xL⟩, xy, ⟨yx, yt, ya, yn, yc, yL⟩, xlo, xhi, xs⟩) (y := ⟨zk, ⟨zx, zt, za, zn, zc, zL⟩, zy, ⟨ux, ut, ua, un, uc, uL⟩, zlo, zhi, zs⟩) b1 (by assumption)))
          (first | (go_at_call 91; (with_reducible refine Calls.mono (S.out _ ?_) ?_); (first | (with_reducible assumption) | (exact BD.out)); rintro e w' ⟨rfl, b1⟩))
        rename_i hHeld
        have B2 := Lib.hid (hHeld.2.2.2.2.2.2.2.2.2.2.2.2.2.2.2.2.2.2.2.2.2.2.out)
        clear hHeld S q0 q1 q2 q3 q4 q5 q6 q7 q8 q9 q10 r0 r1 r2 r3 r4 r5 r6 r7 r8 r9 r10 KD BD
        cases z
        · have E0 := TB.out (by first | rfl | trivial)
          subst E0
          clear TA TB YES NO
          go_wp2_with fail
          go_ret
          exact ⟨rfl, B2.out⟩
        · have TA2 := Lib.hid (TA.out (by first | rfl | trivial))
          clear TA TB
          go_wp2_with fail
          go_roundw
          case rel => exact ⟨i + 1, by go_num, by omega, Lib.hid ⟨B2.out, TA2.out⟩⟩
          case measure => simp [intOf]; omega
      · obtain rfl : i = n := by omega
        have E0 : R = true := YES.out HD.out
        subst E0
        clear YES NO HP HQ HD
        go_wp2_with fail
        go_ret
        exact ⟨rfl, B1.out⟩
  · have nn : ((n : Int) != (n' : Int)) = true := by simp; omega
    have E0 : ssn D E = false := ssn_len (by rw [hdl, hel]; exact cl)
    rw [E0]
    clear HP HQ hdl hel E0 cl
    go_enter Tryz.func53, Tryz.ntmps53
    go_wp2_with fail
    go_ret
    exact ⟨rfl, Below.refl _ _⟩
end Go.Proofs.YtpnllbojifnopaaGreatDoor

/- Same: of patterns. -/
namespace Go.Proofs.YtpnllbojifnopaaGreatDoor
open Go Go.RowKit Pk Rl
set_option maxRecDepth 20000

set_option maxHeartbeats 2000000 in
theorem rtsame_any (a : Option Addr) (n c : Nat) (D : List Nd) (u : Int) (a' : Option Addr) (n' c' : Nat) (E : List Nd) (u' : Int) (w : World) (hP : Pt w a n c D) (hQ : Pt w a' n' c' E) :
    Calls Tryz.prog 17 #[ptv a n c u, ptv a' n' c' u'] w fun e w' => e = .returned (.bool ((u == u') && ssn D E)) ∧ Below w.heap.size w w' := by
  have B0 := Lib.hid (below2 w (ptobj a n c u) (ptobj a' n' c' u'))
  have S := Lib.hid (rsameNodes_any a n c D a' n' c' E _ (hP.below B0.out) (hQ.below B0.out))
  generalize ssn D E = R at S ⊢
  clear hP hQ
  obtain ⟨z, hz⟩ : ∃ z, (u == u') = z := ⟨_, rfl⟩
  rw [hz]
  cases z
  · clear S
    go_enter Tryz.func17, Tryz.ntmps17
    go_wp2_with fail
    go_ret
    exact ⟨rfl, B0.out⟩
  · go_enter Tryz.func17, Tryz.ntmps17
    go_wp2_with fail
    refine S.out.mono ?_
    rintro e w2 ⟨rfl, hb⟩
    have B2 := Lib.hid (below_go B0.out hb)
    clear hb S B0
    go_wp2_with fail
    go_ret
    exact ⟨rfl, B2.out⟩
theorem RowN.nil (w : World) (B : Nat) : RowN w B (.slice none 0 0) [] := World.ownsRow_nil w B 57 11
theorem RowN.empty (w : World) : RowN (w.alloc (.cells #[] 57)) w.heap.size (.slice (some ⟨w.heap.size, 0, none⟩) 0 0) [] :=
  World.ownsRow_made w #[] 0 (Nat.le_refl _) (by decide) rfl
end Go.Proofs.YtpnllbojifnopaaGreatDoor
