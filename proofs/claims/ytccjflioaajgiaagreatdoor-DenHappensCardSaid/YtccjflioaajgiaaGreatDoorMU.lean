/- Contracts, joined: TrT, DnFx, DnLt. -/
import Derived.Test.YtccjflioaajgiaaGreatDoorMT
import Derived.Test.YtccjflioaajgiaaGreatDoorMS
import Derived.Test.YtccjflioaajgiaaGreatDoorDnV
/- The chapter's examples. -/
namespace Go.Proofs.YtccjflioaajgiaaGreatDoor
open Go Go.RowKit Pk Rl
set_option maxRecDepth 20000

abbrev one (t : Int) : Nd := ⟨1, ⟨false, t, none, 0, 0, []⟩, false, qz, 0, 0, 0⟩
abbrev two : List Nd := [⟨2, qz, false, qz, 0, 0, 2⟩, one 1, one 2]
abbrev rep : Nd := ⟨4, qz, false, qz, 2, 3, 3⟩
theorem frn_one (t : Int) (r : List Nd) : frn (one t :: r) = [one t] := by
  rw [frn_cons, if_neg (by simp)]; simp
theorem pts_one (t : Int) : pts [one t] = [] := by unfold pts; rw [frn_one, List.tail_cons, spl_nil]; rfl
theorem ofp_one (F : List Nd → Bool) (t : Int) : ofp F [one t] = true := by unfold ofp; rw [frn_one]; simp only [spl_nil]; rfl
theorem frn_two : frn two = two := by
  rw [frn_cons, if_neg (by simp)]; rfl
theorem spl_two : spl [one 1, one 2] = some [[one 1], [one 2]] := by
  rw [spl_cons _ (by simp), frn_one, if_neg (by simp)]
  show (spl [one 2]).map _ = _
  rw [spl_cons _ (by simp), frn_one, if_neg (by simp)]
  show ((spl []).map _).map _ = _
  rw [spl_nil]; rfl
theorem pts_two : pts two = [[one 1], [one 2]] := by unfold pts; rw [frn_two]; show (spl [one 1, one 2]).getD [] = _; rw [spl_two]; rfl
theorem ofp_two (F : List Nd → Bool) : ofp F two = (F [one 1] && (F [one 2] && true)) := by
  rw [ofp_cons (by rw [frn_two]; simp), frn_two]
  show (match spl [one 1, one 2] with | none => false | some ps => ps.all F) = _
  rw [spl_two]; rfl
theorem frn_rep : frn (rep :: two) = rep :: two := by
  rw [frn_cons, if_neg (by simp)]; rfl
theorem spl_rep : spl two = some [two] := by
  rw [spl_cons _ (by simp), frn_two, if_neg (by simp)]
  show (spl []).map _ = _
  rw [spl_nil]; rfl
theorem pts_rep : pts (rep :: two) = [two] := by unfold pts; rw [frn_rep]; show (spl two).getD [] = _; rw [spl_rep]; rfl
theorem ofp_rep (F : List Nd → Bool) : ofp F (rep :: two) = (F two && true) := by
  rw [ofp_cons (by rw [frn_rep]; simp), frn_rep]
  show (match spl two with | none => false | some ps => ps.all F) = _
  rw [spl_rep]; rfl
theorem fmd_one (k : Nat) (t : Int) : fmd (k + 1) [one t] = true := by
  show (ofp (fmd k) [one t] && kd (one t) (pts [one t]).length) = true
  rw [ofp_one, pts_one]; rfl
theorem fmd_two (k : Nat) : fmd (k + 2) two = true := by
  show (ofp (fmd (k + 1)) two && kd _ (pts two).length) = true
  rw [ofp_two, pts_two, fmd_one, fmd_one]; rfl
theorem fmd_rep (k : Nat) : fmd (k + 3) (rep :: two) = true := by
  show (ofp (fmd (k + 2)) (rep :: two) && kd _ (pts (rep :: two)).length) = true
  rw [ofp_rep, pts_rep, fmd_two]; rfl
theorem dpt_one (k : Nat) (t : Int) : dpt (k + 1) [one t] = 0 := by rw [dpt, pts_one]; rfl
theorem dpt_two (k : Nat) : dpt (k + 2) two = 1 := by
  rw [dpt, pts_two]
  simp only [List.foldl_cons, List.foldl_nil, dpt_one]; rfl
theorem dpt_rep (k : Nat) : dpt (k + 3) (rep :: two) = 2 := by
  rw [dpt, pts_rep]
  simp only [List.foldl_cons, List.foldl_nil, dpt_two]; rfl
theorem plc_one (k : Nat) (t : Int) : plc (k + 1) [one t] = 1 := by
  rw [plc]; exact if_pos rfl
theorem plc_two (k : Nat) : plc (k + 2) two = 2 := by
  rw [plc, pts_two]
  simp only [List.foldl_cons, List.foldl_nil, plc_one]
  show (if (2 : Int) = 1 then (1 : Int) else if (2 : Int) = 4 then _ else wrap64 (wrap64 (0 + 1) + 1)) = 2
  rw [if_neg (by decide), if_neg (by decide)]
  unfold wrap64; rfl
theorem plc_rep (k : Nat) : plc (k + 3) (rep :: two) = 6 := by
  rw [plc, pts_rep]
  simp only [List.foldl_cons, List.foldl_nil, plc_two]
  show (if (4 : Int) = 1 then (1 : Int) else if (4 : Int) = 4 then wrap64 (wrap64 (0 + 2) * 3) else _) = 6
  rw [if_neg (by decide), if_pos rfl]
  unfold wrap64; rfl
theorem mp_two0 : mp two 10 = 0 := by
  unfold mp
  rw [if_neg (by decide), if_neg (by rw [frn_two, fmd_two 31]; simp), if_neg (by decide), dpt_two 31, plc_two 31]; decide
theorem mp_rep0 : mp (rep :: two) 1 = 0 := by
  unfold mp
  rw [if_neg (by decide), if_neg (by rw [frn_rep, fmd_rep 30]; simp), if_neg (by decide), dpt_rep 30, plc_rep 30]; decide
/- nodes without tests -/
def Bare (q : Qu) : Prop := q.a = none ∧ q.n = 0 ∧ q.c = 0 ∧ q.L = []
theorem QB.bare {w : World} {B : Nat} {v : Value} {q : Qu} (h : Bare q) : QB w B v q := by
  obtain ⟨x, t, a, n, c, L⟩ := q
  obtain ⟨rfl, rfl, rfl, rfl⟩ := h
  exact ⟨OwnT.nil _ _, rfl, by simp, by simp, fun g hg => by cases hg⟩
theorem Qok.bare {w : World} {q : Qu} (h : Bare q) : Qok w q := by
  obtain ⟨x, t, a, n, c, L⟩ := q
  obtain ⟨rfl, rfl, rfl, rfl⟩ := h
  exact ⟨rfl, by simp, Tsts.nil _ _, by simp⟩
def Pln (D : List Nd) : Prop := ∀ v ∈ D, Bare v.p ∧ Bare v.g ∧ Rg v
theorem Pln.pt {w : World} {A : Option Addr} {n c : Nat} {D : List Nd} (h : Pln D) (hl : D.length = n) (hn : n ≤ 1000) (hc : n ≤ c) (hr : Nds w A D) : Pt w A n c D :=
  ⟨hl, hn, hc, hr, fun v hv => by obtain ⟨q1, q2, r⟩ := h v hv; exact ⟨Qok.bare q1, Qok.bare q2, r.k0, r.k1, r.l0, r.l1, r.h0, r.h1, r.s0, r.s1⟩⟩
theorem pln_one (t : Int) : Bare (one t).p ∧ Bare (one t).g ∧ Rg (one t) := ⟨⟨rfl, rfl, rfl, rfl⟩, ⟨rfl, rfl, rfl, rfl⟩, by simp, by simp, by simp, by simp, by simp, by simp, by simp, by simp⟩
theorem pln_two : Pln two := by
  intro v hv
  simp only [two, List.mem_cons, List.not_mem_nil, or_false] at hv
  rcases hv with rfl | rfl | rfl
  · exact ⟨⟨rfl, rfl, rfl, rfl⟩, ⟨rfl, rfl, rfl, rfl⟩, by decide, by decide, by decide, by decide, by decide, by decide, by decide, by decide⟩
  · exact pln_one 1
  · exact pln_one 2
theorem pln_rep : Pln (rep :: two) := by
  intro v hv
  rcases List.mem_cons.1 hv with rfl | hv
  · exact ⟨⟨rfl, rfl, rfl, rfl⟩, ⟨rfl, rfl, rfl, rfl⟩, by decide, by decide, by decide, by decide, by decide, by decide, by decide, by decide⟩
  · exact pln_two v hv
/- rows of nodes of one's own, by cells alone; many appended at once -/
def RowN (w : World) (B : Nat) (v : Value) (D : List Nd) : Prop := w.ownsRow B 55 11 v D.length (ncls D)
theorem RowN.form {w : World} {B : Nat} {v : Value} {D : List Nd} (h : RowN w B v D) : ∃ A c, v = .slice A D.length c ∧ Nds w A D ∧ D.length ≤ c := by
  rcases h.2 with ⟨rfl, h0⟩ | ⟨g, cap, cur, rfl, _, _, hcap, _⟩
  · have : D = [] := List.eq_nil_of_length_eq_zero h0
    subst this
    exact ⟨none, 0, rfl, Nds.nil _ _, Nat.le_refl _⟩
  · refine ⟨_, _, rfl, fun i hi => ⟨g, 0, rfl, ?_⟩, by omega⟩
    have key : ∀ j u, j < 11 → (ncl (D.getD i nz))[j]? = some u → w.cell? ⟨g, 0 + i * 11 + j, none⟩ = some u := fun j u hj hu => by
      have := World.ownsRow.cells h (g := g) rfl (i * 11 + j) u (by rw [ncls_get D i hi j hj]; exact hu)
      rwa [add_plain, ← Nat.add_assoc] at this
    exact ⟨key 0 _ (by omega) rfl, key 1 _ (by omega) rfl, key 2 _ (by omega) rfl, key 3 _ (by omega) rfl, key 4 _ (by omega) rfl, key 5 _ (by omega) rfl, key 6 _ (by omega) rfl, key 7 _ (by omega) rfl, key 8 _ (by omega) rfl, key 9 _ (by omega) rfl, key 10 _ (by omega) rfl⟩
theorem run_appn (w : World) (B : Nat) (ty : TypeId) (v : Value) (L : List Nd) (ho : RowN w B v L) (A : Option Addr) (m c : Nat) (M : List Nd) (hm : M.length = m) (hb : Nds w A M) (hc : A = none → c = 0)
    (hlen : L.length + m ≤ 1000000) (hB : B ≤ w.heap.size) :
    ∃ v' w', (Builtin.append_ #[28, 28] ty #[v, .slice A m c]).run Tryz.prog w = .ok v' w' ∧ RowN w' B v' (L ++ M) ∧ Below B w w' := by
  obtain ⟨i, hi, hz, hs, hy⟩ := infoN
  rcases A with _ | ad
  · obtain rfl := hc rfl
    have hl : M = [] := by
      rcases M with _ | ⟨x, M⟩
      · rfl
      · obtain ⟨b, off, h, _⟩ := hb 0 (by simp)
        cases h
    subst hl
    subst hm
    exact ⟨v, w, run_append_owned_none (P := Tryz.prog) (w := w) B 28 ty 55 i 11 Tryz.underlying28 hi v _ _ ho, by rw [List.append_nil]; exact ho, Below.refl _ _⟩
  · obtain ⟨v', w', h1, h2, h3, _⟩ := run_append_own (P := Tryz.prog) w B 28 ty 55 i (nOf nz) 11 96 Tryz.underlying28 hi hz hs hy rfl (by omega) v L.length (ncls L) ho ad m c (ncls M)
      (by rw [ncls_len, hm])
      (fun j u hj => by
        have hjl : j < M.length * 11 := by
          rcases Nat.lt_or_ge j (ncls M).length with h | h
          · rwa [ncls_len] at h
          · rw [List.getElem?_eq_none h] at hj; cases hj
        obtain ⟨b, off, h, c0, c1, c2, c3, c4, c5, c6, c7, c8, c9, c10⟩ := hb (j / 11) (by omega)
        injection h with h
        subst h
        rw [show j = j / 11 * 11 + j % 11 by omega, ncls_get M (j / 11) (by omega) (j % 11) (by omega)] at hj
        rw [add_plain, show off + j = off + j / 11 * 11 + j % 11 by omega]
        have h4 : j % 11 < 11 := by omega
        generalize j % 11 = p at hj h4
        rcases p with _ | _ | _ | _ | _ | _ | _ | _ | _ | _ | _ | p
        · rw [Nat.add_zero, c0]; exact hj
        · rw [c1]; exact hj
        · rw [c2]; exact hj
        · rw [c3]; exact hj
        · rw [c4]; exact hj
        · rw [c5]; exact hj
        · rw [c6]; exact hj
        · rw [c7]; exact hj
        · rw [c8]; exact hj
        · rw [c9]; exact hj
        · rw [c10]; exact hj
        · omega)
      (ncls_one M)
      (by unfold maxLen; omega) (by omega) hB
    refine ⟨v', w', h1, ?_, (Below.refl _ _).grown h3 hB (fun k hk => (World.ownsRow.lt ho k hk).1)⟩
    have : (L ++ M).length = L.length + m := by rw [List.length_append, hm]
    unfold RowN
    rw [this, ncls_app]
    exact h2
theorem wp_appns {ops : Array Oper} {rest : List Oper} {o : Oper} {a : Act} {Q : Exit → Act → World → Prop} (s x : Operand) (w : World) (hgd : o.guard = none)
    (hop : o.op = .call { callee := .builtin .append, args := #[s, x], argTypes := #[28, 28] })
    (B : Nat) (v : Value) (L : List Nd) (hs : a.eval s = v) (ho : RowN w B v L) (A : Option Addr) (m c : Nat) (M : List Nd) (hx : a.eval x = .slice A m c) (hm : M.length = m) (hb : Nds w A M) (hc : A = none → c = 0)
    (k : Nat) (hk : (L ++ M).length = k) (hlen : k ≤ 1000000) (hB : B ≤ w.heap.size)
    (h : ∀ A' c' w', RowN w' B (.slice A' k c') (L ++ M) → Below B w w' → wpList Tryz.prog ops Q rest (a.put o.dst (.slice A' k c')) w') : wpList Tryz.prog ops Q (o :: rest) a w := by
  refine wpList_plain hgd fun K hK => ?_
  have hlen2 : L.length + m ≤ 1000000 := by rw [List.length_append] at hk; omega
  obtain ⟨v', w', hrun, h2, h3⟩ := run_appn w B o.type v L ho A m c M hm hb hc hlen2 hB
  obtain ⟨A', c', rfl, hby⟩ := h2.form
  rw [hk] at h2 hrun
  unfold Oper.wp
  simp [execOp, hop, resolve, invoke, builtin, hs, hx, hrun, Result.andThen]
  exact hK _ _ (h A' c' w' h2 h3)
theorem RowN.one (w : World) (B : Nat) (hB : B ≤ w.heap.size) (n : Nd) : RowN (w.alloc (nobj n)) B (.slice (some ⟨w.heap.size, 0, none⟩) 1 1) [n] :=
  ⟨by simp [ncls, ncl], .inr ⟨w.heap.size, 1, _, rfl, hB, heap_alloc_new w _, Nat.le_refl _, by decide, rfl, rfl⟩⟩
set_option maxHeartbeats 1000000 in
theorem two_any (w : World) : Calls Tryz.prog 26 #[.int .u8 1, .int .u8 2] w fun e w' => (∃ g, e = .returned (ptv (some ⟨g, 0, none⟩) 3 3 10) ∧ Nds w' (some ⟨g, 0, none⟩) two) ∧ Below w.heap.size w w' := by
  go_enter Tryz.func26, Tryz.ntmps26
  go_wp2_with fail
  refine bodyPost_ret (v := ptv (some ⟨w.heap.size + 1, 0, none⟩) 3 3 10) (by simp [results, Tryz.results26, go_sem, *]) rfl ⟨⟨_, rfl, fun i hi => ⟨_, _, rfl, ?_⟩⟩, below_go (below_alloc w _) (below_alloc _ _)⟩
  have : i = 0 ∨ i = 1 ∨ i = 2 := by simp [two] at hi; omega
  rcases this with rfl | rfl | rfl <;> (refine ⟨?_, ?_, ?_, ?_, ?_, ?_, ?_, ?_, ?_, ?_, ?_⟩ <;> simp [go_sem])
structure FX (w W : World) (g1 g2 : Nat) (A A1 : Option Addr) (c1 : Nat) : Prop where
  p : PtB W g1 A 3 3 10
  q : PtB W g2 A1 4 c1 1
  n : Nds W A two
  m : Nds W A1 (rep :: two)
  b : Below w.heap.size w W
theorem FX.next {w W W' : World} {g1 g2 : Nat} {A A1 : Option Addr} {c1 : Nat} (h : FX w W g1 g2 A A1 c1) (hb : Below W.heap.size W W') : FX w W' g1 g2 A A1 c1 :=
  ⟨h.p.next hb, h.q.next hb, h.n.below hb, h.m.below hb, below_go h.b hb⟩
theorem nds_lt {w : World} {A : Option Addr} {D : List Nd} (h : Nds w A D) (hd : D ≠ []) : ∃ b off, A = some ⟨b, off, none⟩ ∧ b < w.heap.size := by
  rcases D with _ | ⟨x, D⟩
  · exact absurd rfl hd
  · obtain ⟨b, off, e, h⟩ := h 0 (by simp)
    exact ⟨b, off, e, h.lt⟩
theorem Nds.belowB {B : Nat} {w w' : World} {b off : Nat} {L : List Nd} (h : Nds w (some ⟨b, off, none⟩) L) (hb : Below B w w') (hB : b < B) : Nds w' (some ⟨b, off, none⟩) L := fun i hi => by
  obtain ⟨b', off', e, h⟩ := h i hi
  injection e with e
  injection e with e1 e2
  subst e1 e2
  exact ⟨b, off, rfl, h.below hb hB⟩
end Go.Proofs.YtccjflioaajgiaaGreatDoor

/- The chapter's example. -/
namespace Go.Proofs.YtccjflioaajgiaaGreatDoor
open Go Go.RowKit Go.Maps Pk Rl
set_option maxRecDepth 20000

def R3 : List Lg := [atl 1 0, atl 1 1, atl 2 2]
def h3 : Hq := hq R3
theorem rel_one (h : Hq) (N k : Nat) (t : Int) : rel h N (k + 1) [one t] = fun i j => decide (i = j) && decide (i < N) && h (one t).p i := by
  rw [rel_succ, if_neg (show ¬ ([one t].headD nz).k = 2 by show ¬ (1 : Int) = 2; decide), if_neg (show ¬ ([one t].headD nz).k = 3 by show ¬ (1 : Int) = 3; decide), if_neg (show ¬ ([one t].headD nz).k = 4 by show ¬ (1 : Int) = 4; decide)]
  rfl
theorem rel_two (h : Hq) (N k : Nat) : rel h N (k + 2) two = chn N (gp (gd h ⟨2, qz, false, qz, 0, 0, 2⟩)) [fun i j => decide (i = j) && decide (i < N) && h (one 1).p i, fun i j => decide (i = j) && decide (i < N) && h (one 2).p i] := by
  rw [rel_succ, if_pos (show (two.headD nz).k = 2 from rfl), pts_two, List.map_cons, List.map_cons, List.map_nil, rel_one, rel_one]
  rfl
theorem gen3 : gen two 10 R3 3 = [(0, 2), (1, 2)] := by
  have e : ∀ i, pm two 10 R3 i = rng (ovr 3 (lat R3) 10 i) (chn 3 (gp (gd (hq R3) ⟨2, qz, false, qz, 0, 0, 2⟩)) [fun i j => decide (i = j) && decide (i < 3) && hq R3 (one 1).p i, fun i j => decide (i = j) && decide (i < 3) && hq R3 (one 2).p i] i) := fun i => by
    show rng _ (rel (hq R3) 3 60 two i) = _
    rw [rel_two]
    rfl
  unfold gen
  simp only [e]
  decide
theorem dm3 : dm 0 R3 = true := by decide
theorem dme3 : dme two 10 R3 = 0 := by
  unfold dme
  have : mp two ((10 : Nat) : Int) = 0 := mp_two0
  rw [if_pos this, dm3]; rfl
theorem dmt3 : dmt two 10 R3 = [(0, 2), (1, 2)] := by
  unfold dmt
  rw [dme3, if_pos rfl, show R3.length = 3 from rfl, gen3]
  unfold srt
  simp [List.mergeSort, List.MergeSort.Internal.splitInTwo, ltM]
theorem lr3 (w : World) : Lr (w.alloc (.cells #[.int .u32 0, .int .u64 0, .int .u64 0, .int .u8 1, .slice none 0 0, .int .u32 0, .int .u64 0, .int .u64 1, .int .u8 1, .slice none 0 0, .int .u32 0, .int .u64 0, .int .u64 2, .int .u8 2, .slice none 0 0] 81)) (some ⟨w.heap.size, 0, none⟩) R3 := by
  refine ⟨fun i hi => ⟨_, 0, rfl, ?_⟩, fun x hx => ?_⟩
  · have hi : i < 3 := hi
    rcases i with _ | _ | _ | i
    · refine ⟨?_, ?_, ?_, ?_, ?_⟩ <;> simp [go_sem, R3, atl]
    · refine ⟨?_, ?_, ?_, ?_, ?_⟩ <;> simp [go_sem, R3, atl]
    · refine ⟨?_, ?_, ?_, ?_, ?_⟩ <;> simp [go_sem, R3, atl]
    · omega
  · simp only [R3, List.mem_cons, List.not_mem_nil, or_false] at hx
    rcases hx with rfl | rfl | rfl <;> exact ⟨rfl, by decide, Vals.nil _ _, by simp [atl], by decide⟩
theorem mrs2 (w : World) : Mrs (w.alloc (.cells #[.int .u64 0, .int .u64 2, .int .u64 1, .int .u64 2] 46)) (some ⟨w.heap.size, 0, none⟩) [(0, 2), (1, 2)] := fun i hi => by
  refine ⟨_, 0, rfl, ?_⟩
  have hi : i < 2 := hi
  rcases i with _ | _ | i
  · refine ⟨?_, ?_⟩ <;> simp [go_sem]
  · refine ⟨?_, ?_⟩ <;> simp [go_sem]
  · omega
set_option maxHeartbeats 4000000 in
theorem fixed_any (w : World) (hT : Tab w) : Calls Tryz.prog 12 #[] w fun e w' => e = .returned (.bool true) ∧ Below w.heap.size w w' := by
  have C0 := Lib.hid (two_any w)
  have C1 := Lib.hid (fun W => at_any 1 0 W)
  have C2 := Lib.hid (fun W => at_any 1 1 W)
  have C3 := Lib.hid (fun W => at_any 2 2 W)
  have CM := Lib.hid (fun A rA c W (hW : Below w.heap.size w W) (hN : Nds W A two) (hR : Lr W rA R3) => matches_any A 3 3 two 10 rA 3 c R3 W (pln_two.pt rfl (by omega) (by omega) hN) hR rfl (by omega) (by omega) (hT.below hW))
  have CS := Lib.hid (fun A c A' W (h : Mrs W A [(0, 2), (1, 2)]) (h' : Mrs W A' [(0, 2), (1, 2)]) => msame_any A 2 c [(0, 2), (1, 2)] A' 2 2 [(0, 2), (1, 2)] W h h' rfl rfl (by omega) (by omega))
  simp only [dme3, dmt3] at CM
  unfold atl at C1 C2 C3
  clear hT
  go_enter Tryz.func12, Tryz.ntmps12
  go_wp2_with fail
  refine C0.out.mono ?_
  rintro e w2 ⟨⟨g, rfl, hN⟩, hb⟩
  have B2 := Lib.hid hb
  have N2 := Lib.hid hN
  clear hb hN C0
  go_wp2_with fail
  refine (C1.out _).mono ?_
  rintro e w3 ⟨rfl, hb⟩
  have B3 := Lib.hid (below_go B2.out hb)
  have N3 := Lib.hid (N2.out.below hb)
  clear hb B2 N2
  go_wp2_with fail
  refine (C2.out _).mono ?_
  rintro e w4 ⟨rfl, hb⟩
  have B4 := Lib.hid (below_go B3.out hb)
  have N4 := Lib.hid (N3.out.below hb)
  clear hb B3 N3
  go_wp2_with fail
  refine (C3.out _).mono ?_
  rintro e w5 ⟨rfl, hb⟩
  have B5 := Lib.hid (below_go B4.out hb)
  have N5 := Lib.hid (N4.out.below hb)
  clear hb B4 N4 C1 C2 C3
  go_wp2_with fail
  have BA := Lib.hid (bal w5 (.cells #[.int .u32 0, .int .u64 0, .int .u64 0, .int .u8 1, .slice none 0 0, .int .u32 0, .int .u64 0, .int .u64 1, .int .u8 1, .slice none 0 0, .int .u32 0, .int .u64 0, .int .u64 2, .int .u8 2, .slice none 0 0] 81))
  refine (CM.out _ _ _ _ (below_go B5.out BA.out) (N5.out.below BA.out) (lr3 w5)).mono ?_
  rintro e w6 ⟨⟨A6, c6, rfl, hm⟩, hb⟩
  have B6 := Lib.hid (below_go (below_go B5.out BA.out) hb)
  have BB := Lib.hid (bal w6 (.cells #[.int .u64 0, .int .u64 2, .int .u64 1, .int .u64 2] 46))
  have M6 := Lib.hid (hm.ck (Ck.of_below BB.out))
  have CS6 := Lib.hid (CS.out A6 c6 _ _ M6.out (mrs2 w6))
  have B7 := Lib.hid (below_go B6.out BB.out)
  clear hb hm CM CS M6
  go_wp2_with fail
  refine CS6.out.mono ?_
  rintro e w8 ⟨rfl, hb⟩
  have B8 := Lib.hid (below_go B7.out hb)
  clear hb
  go_wp2_with fail
  go_ret
  exact ⟨rfl, B8.out⟩
end Go.Proofs.YtccjflioaajgiaaGreatDoor

/- What comes later changes nothing: by values. -/
namespace Go.Proofs.YtccjflioaajgiaaGreatDoor
open Go Go.RowKit Go.Maps Pk Rl
set_option maxRecDepth 20000

/- two relations that agree up to a place -/
def Ag (k : Nat) (r r' : Rl2) : Prop := ∀ i j, j < k → r i j = r' i j
theorem Ag.refl (k : Nat) (r : Rl2) : Ag k r r := fun _ _ _ => rfl
theorem ag_thn {k N : Nat} (hk : k ≤ N) {a a' b b' : Rl2} (ha : Ag k a a') (hb : Ag k b b') (h1 : ∀ m j, b m j = true → m ≤ j) : Ag k (thn N a b) (thn k a' b') := fun i j hj => by
  rw [Bool.eq_iff_iff, thn_iff, thn_iff]
  constructor
  · rintro ⟨m, hm, h2, h3⟩
    have := h1 m j h3
    exact ⟨m, by omega, by rw [← ha i m (by omega)]; exact h2, by rw [← hb m j hj]; exact h3⟩
  · rintro ⟨m, hm, h2, h3⟩
    exact ⟨m, by omega, by rw [ha i m hm]; exact h2, by rw [hb m j hj]; exact h3⟩
theorem ag_gp {k : Nat} {g g' : Nat → Bool} (h : ∀ i, i < k → g i = g' i) : Ag k (gp g) (gp g') := fun i j hj => by
  rw [Bool.eq_iff_iff, gp_iff, gp_iff]
  constructor
  · rintro ⟨h1, h2⟩; exact ⟨h1, fun m hm hmj => by rw [← h m (by omega)]; exact h2 m hm hmj⟩
  · rintro ⟨h1, h2⟩; exact ⟨h1, fun m hm hmj => by rw [h m (by omega)]; exact h2 m hm hmj⟩
theorem ag_chn {k N : Nat} (hk : k ≤ N) {g g' : Nat → Bool} (h : ∀ i, i < k → g i = g' i) {α : Type} (ps : List α) (F F' : α → Rl2) (hf : ∀ p ∈ ps, Ag k (F p) (F' p)) (hw : ∀ p ∈ ps, Fwd N (F p)) : Ag k (chn N (gp g) (ps.map F)) (chn k (gp g') (ps.map F')) := by
  have key : ∀ (ps : List α), (∀ p ∈ ps, Ag k (F p) (F' p)) → (∀ p ∈ ps, Fwd N (F p)) → ∀ a a', Ag k a a' → Ag k ((ps.map F).foldl (fun a b => thn N (thn N a (gp g)) b) a) ((ps.map F').foldl (fun a b => thn k (thn k a (gp g')) b) a') := by
    intro ps
    induction ps with
    | nil => intro _ _ a a' ha; exact ha
    | cons p ps ih =>
      intro hf hw a a' ha
      rw [List.map_cons, List.map_cons, List.foldl_cons, List.foldl_cons]
      refine ih (fun p hp => hf p (by simp [hp])) (fun p hp => hw p (by simp [hp])) _ _ ?_
      exact ag_thn hk (ag_thn hk ha (ag_gp h) (fun m j hm => Nat.le_of_lt (gp_iff.1 hm).1)) (hf p (by simp)) (fun m j hm => (hw p (by simp) m j hm).1)
  cases ps with
  | nil => exact Ag.refl _ _
  | cons p ps => exact key ps (fun p hp => hf p (by simp [hp])) (fun p hp => hw p (by simp [hp])) _ _ (hf p (by simp))
theorem map_take_c {α β : Type} (F : α → β) (ps : List α) (m : Nat) : (ps.map F).take m = (ps.take m).map F := List.map_take.symm
theorem ag_anyc {k N : Nat} (hk : k ≤ N) {g g' : Nat → Bool} (h : ∀ i, i < k → g i = g' i) {α : Type} (ps : List α) (F F' : α → Rl2) (hf : ∀ p ∈ ps, Ag k (F p) (F' p)) (hw : ∀ p ∈ ps, Fwd N (F p)) (least : Nat) : Ag k (anyc N g (ps.map F) least) (anyc k g' (ps.map F') least) := fun i j hj => by
  unfold anyc
  rw [List.length_map, List.length_map]
  congr 1
  funext m
  rw [map_take_c, map_take_c, ag_chn hk h (ps.take (m + 1)) F F' (fun p hp => hf p (List.mem_of_mem_take hp)) (fun p hp => hw p (List.mem_of_mem_take hp)) i j hj]
theorem reps_map {α : Type} (n : Nat) (ps : List α) (F : α → Rl2) : reps n (ps.map F) = (List.replicate n ps).flatten.map F := by
  unfold reps
  rw [List.map_flatten, List.map_replicate]
theorem rel_ag {h h' : Hq} {N k : Nat} (hk : k ≤ N) (hh : ∀ q i, i < k → h q i = h' q i) (f : Nat) (l : List Nd) : Ag k (rel h N f l) (rel h' k f l) := by
  induction f generalizing l with
  | zero => exact Ag.refl _ _
  | succ f ih =>
    have hg : ∀ i, i < k → gd h (l.headD nz) i = gd h' (l.headD nz) i := fun i hi => by unfold gd; rw [hh _ i hi]
    rw [rel_succ, rel_succ h' k f l]
    by_cases c2 : (l.headD nz).k = 2
    · rw [if_pos c2, if_pos c2]
      exact ag_chn hk hg _ _ _ (fun p _ => ih p) (fun p _ => rel_fwd h N f p)
    rw [if_neg c2, if_neg c2]
    by_cases c3 : (l.headD nz).k = 3
    · rw [if_pos c3, if_pos c3]
      intro i j hj
      unfold altr
      rw [List.any_map, List.any_map]
      congr 1
      funext p
      exact ih p i j hj
    rw [if_neg c3, if_neg c3]
    by_cases c4 : (l.headD nz).k = 4
    · rw [if_pos c4, if_pos c4, reps_map, reps_map]
      exact ag_anyc hk hg _ _ _ (fun p _ => ih p) (fun p _ => rel_fwd h N f p) _
    rw [if_neg c4, if_neg c4]
    intro i j hj
    by_cases e : i = j
    · subst e
      show (decide (i = i) && decide (i < N) && h _ i) = (decide (i = i) && decide (i < k) && h' _ i)
      rw [hh _ i hj]
      have e1 : decide (i < N) = true := decide_eq_true (by omega)
      have e2 : decide (i < k) = true := decide_eq_true hj
      rw [e1, e2]
    · have e0 : decide (i = j) = false := decide_eq_false e
      show (decide (i = j) && decide (i < N) && h _ i) = (decide (i = j) && decide (i < k) && h' _ i)
      rw [e0]; rfl
/- beginnings of rows -/
theorem getD_take_l (R : List Lg) (k i : Nat) (h : i < k) : (R.take k).getD i lz = R.getD i lz := by
  rw [List.getD_eq_getElem?_getD, List.getD_eq_getElem?_getD, List.getElem?_take_of_lt h]
theorem lat_take (R : List Lg) (k i : Nat) (h : i < k) : lat (R.take k) i = lat R i := by unfold lat; rw [getD_take_l R k i h]
theorem hq_take (R : List Lg) (k : Nat) (q : Qu) (i : Nat) (h : i < k) : hq R q i = hq (R.take k) q i := by unfold hq; rw [getD_take_l R k i h]
theorem dm_take {last : Nat} {R : List Lg} (h : dm last R = true) (k : Nat) : dm last (R.take k) = true := by
  induction R generalizing last k with
  | nil => simp [dm]
  | cons x r ih =>
    cases k with
    | zero => rfl
    | succ k =>
      rw [List.take_succ_cons]
      unfold dm at h ⊢
      simp only [Bool.and_eq_true] at h ⊢
      exact ⟨h.1, h.2.1, h.2.2.1, ih h.2.2.2 k⟩
/- which places are within the window -/
theorem lt_ovr {N : Nat} {at_ : Nat → Nat} {W i j : Nat} (hm : ∀ a b, a ≤ b → b < N → at_ a ≤ at_ b) (hij : i ≤ j) : j < ovr N at_ W i ↔ j < N ∧ at_ j - at_ i ≤ W := by
  constructor
  · intro h
    have := ovr_le N at_ W i
    exact ⟨by omega, ovr_in hij h⟩
  · rintro ⟨h1, h2⟩
    rcases Nat.lt_or_ge j (ovr N at_ W i) with h | h
    · exact h
    · have h3 := ovr_out (N := N) (at_ := at_) (W := W) (i := i) (by omega)
      have := hm _ j h h1
      omega
theorem rng_wide (o M : Nat) (h : o ≤ M) (f : Nat → Bool) : rng M (fun j => decide (j < o) && f j) = rng o f := by
  induction M with
  | zero => obtain rfl : o = 0 := by omega
            rfl
  | succ M ih =>
    by_cases e : o = M + 1
    · subst e
      exact rng_congr fun j hj => by rw [decide_eq_true hj]; rfl
    · rw [rng_next, if_neg (by simp; omega)]
      exact ih (by omega)
theorem rng_ext {o o' : Nat} {f f' : Nat → Bool} (h : ∀ j, (j < o ∧ f j = true) ↔ (j < o' ∧ f' j = true)) : rng o f = rng o' f' := by
  rw [← rng_wide o (max o o') (by omega) f, ← rng_wide o' (max o o') (by omega) f']
  refine rng_congr fun j _ => ?_
  rw [Bool.eq_iff_iff, Bool.and_eq_true, Bool.and_eq_true, decide_eq_true_iff, decide_eq_true_iff]
  exact h j
theorem rng_filter (o : Nat) (f p : Nat → Bool) : (rng o f).filter p = rng o (fun j => f j && p j) := by
  unfold rng
  rw [List.filter_filter]
  exact List.filter_congr fun j _ => Bool.and_comm _ _
theorem pm_later {L : List Nd} {W : Nat} {R : List Lg} (hd : dm 0 R = true) {k i : Nat} (hk : k ≤ R.length) (hi : i < k) : (pm L W R i).filter (fun j => decide (j < k)) = pm L W (R.take k) i := by
  have hr := (dm_all hd).2
  have hr' := (dm_all (dm_take hd k)).2
  have hl : (R.take k).length = k := by rw [List.length_take]; omega
  unfold pm ens
  rw [rng_filter]
  refine rng_ext fun j => ?_
  rw [Bool.and_eq_true, decide_eq_true_iff]
  have ag := rel_ag hk (fun q i hi => hq_take R k q i hi) 60 (L.drop 0)
  constructor
  · rintro ⟨h1, h2, h3⟩
    have hij := (rn_fwd (hq R) R.length L 0 i j h2).1
    obtain ⟨h4, h5⟩ := (lt_ovr hr hij).1 h1
    refine ⟨(lt_ovr hr' hij).2 ⟨by omega, ?_⟩, ?_⟩
    · rw [lat_take R k j h3, lat_take R k i hi]; exact h5
    · rw [hl]
      show rel (hq (R.take k)) k 60 (L.drop 0) i j = true
      rw [← ag i j h3]; exact h2
  · rintro ⟨h1, h2⟩
    have hij := (rn_fwd (hq (R.take k)) (R.take k).length L 0 i j h2).1
    obtain ⟨h4, h5⟩ := (lt_ovr hr' hij).1 h1
    rw [hl] at h4
    rw [lat_take R k j h4, lat_take R k i hi] at h5
    refine ⟨(lt_ovr hr hij).2 ⟨by omega, h5⟩, ?_, h4⟩
    rw [hl] at h2
    show rel (hq R) R.length 60 (L.drop 0) i j = true
    rw [ag i j h4]; exact h2
theorem gen_later {L : List Nd} {W : Nat} {R : List Lg} (hd : dm 0 R = true) {k : Nat} (hk : k ≤ R.length) : (gen L W R R.length).filter (fun m => decide (m.2 < k)) = gen L W (R.take k) (R.take k).length := by
  have hl : (R.take k).length = k := by rw [List.length_take]; omega
  have one : ∀ i, ((pm L W R i).map fun j => (i, j)).filter (fun m => decide (m.2 < k)) = if i < k then (pm L W (R.take k) i).map fun j => (i, j) else [] := fun i => by
    rw [List.filter_map]
    by_cases c : i < k
    · rw [if_pos c, ← pm_later hd hk c]; rfl
    · rw [if_neg c]
      have : (pm L W R i).filter ((fun m : Mt => decide (m.2 < k)) ∘ fun j => (i, j)) = [] := by
        refine List.filter_eq_nil_iff.2 fun j hj => ?_
        have := (ens_mem hj).1
        simp; omega
      rw [this]; rfl
  have key : ∀ n, k ≤ n → (gen L W R n).filter (fun m => decide (m.2 < k)) = gen L W (R.take k) k := by
    have below : ∀ n, n ≤ k → (gen L W R n).filter (fun m => decide (m.2 < k)) = gen L W (R.take k) n := by
      intro n
      induction n with
      | zero => intro _; rfl
      | succ n ih =>
        intro hn
        rw [gen_next, gen_next, List.filter_append, ih (by omega), one, if_pos (by omega)]
    intro n
    induction n with
    | zero => intro hn; exact below 0 (by omega) ▸ by obtain rfl : k = 0 := by omega
                                                      rfl
    | succ n ih =>
      intro hn
      by_cases e : k = n + 1
      · rw [e] at below ⊢; exact below (n + 1) (Nat.le_refl _)
      · rw [gen_next, List.filter_append, ih (by omega), one, if_neg (by omega), List.append_nil]
  rw [hl]
  exact key R.length hk
theorem srt_le (L : List Mt) : (srt L).Pairwise fun a b => (!(ltOf cfM) b a) = true := by
  unfold srt
  refine List.pairwise_mergeSort (fun a b c h1 h2 => ?_) (fun a b => ?_) L
  · rw [ltM] at *
    simp only [Bool.not_eq_true', decide_eq_false_iff_not] at *
    omega
  · rw [ltM, ltM]
    rw [Bool.or_eq_true]
    simp only [Bool.not_eq_true', decide_eq_false_iff_not]
    omega
theorem srt_uniq {A B : List Mt} (hA : A.Pairwise fun a b => (!(ltOf cfM) b a) = true) (hp : A.Perm B) : A = srt B := by
  refine List.Perm.eq_of_pairwise (le := fun a b => (!(ltOf cfM) b a) = true) (fun a b _ _ h1 h2 => ?_) hA (srt_le B) (hp.trans (List.mergeSort_perm _ _).symm)
  rw [ltM] at h1 h2
  simp only [Bool.not_eq_true', decide_eq_false_iff_not] at h1 h2
  obtain ⟨a1, a2⟩ := a
  obtain ⟨b1, b2⟩ := b
  simp only at h1 h2
  have e1 : a1 = b1 := by omega
  have e2 : a2 = b2 := by omega
  rw [e1, e2]
theorem dme_later {L : List Nd} {W : Nat} {R : List Lg} (h : dme L W R = 0) (k : Nat) : dme L W (R.take k) = 0 := by
  unfold dme at h ⊢
  by_cases c : mp L W = 0
  · rw [if_pos c] at h ⊢
    by_cases d : dm 0 R = true
    · rw [dm_take d k]; rfl
    · rw [if_neg d] at h; omega
  · rw [if_neg c] at h; exact absurd h c
theorem dmt_later {L : List Nd} {W : Nat} {R : List Lg} (h : dme L W R = 0) (k : Nat) (hk : k ≤ R.length) : dmt L W (R.take k) = (dmt L W R).filter (fun m => decide (m.2 < k)) := by
  have hd : dm 0 R = true := by
    unfold dme at h
    by_cases c : mp L W = 0
    · rw [if_pos c] at h
      by_cases d : dm 0 R = true
      · exact d
      · rw [if_neg d] at h; omega
    · rw [if_neg c] at h; exact absurd h c
  unfold dmt
  rw [dme_later h k, h, if_pos rfl, if_pos rfl]
  refine (srt_uniq ((srt_le _).filter _) ?_).symm
  rw [← gen_later hd hk]
  exact (List.mergeSort_perm _ _).filter _
end Go.Proofs.YtccjflioaajgiaaGreatDoor
