/- Rows of nodes of one's own; what statements are handed: nodes by their questions' values' bits. -/
import Derived.Test.YtnjndlbhnkhlhaaDoorTrP
import Derived.Test.YtnjndlbhnkhlhaaDoorPdR
namespace Go.Proofs.YtnjndlbhnkhlhaaDoor
open Go Go.RowKit Pk Rl
set_option maxRecDepth 20000

def ncls (D : List Nd) : List Value := D.flatMap ncl
theorem ncl_len (n : Nd) : (ncl n).length = 11 := rfl
theorem ncls_len (D : List Nd) : (ncls D).length = D.length * 11 := by
  induction D with
  | nil => rfl
  | cons v D ih => show (ncl v ++ ncls D).length = _; rw [List.length_append, ih, List.length_cons, ncl_len]; omega
theorem ncls_app (X Y : List Nd) : ncls (X ++ Y) = ncls X ++ ncls Y := by unfold ncls; rw [List.flatMap_append]
theorem ncls_get (D : List Nd) (i : Nat) (hi : i < D.length) (j : Nat) (hj : j < 11) : (ncls D)[i * 11 + j]? = (ncl (D.getD i nz))[j]? := by
  induction D generalizing i with
  | nil => simp at hi
  | cons v D ih =>
    show (ncl v ++ ncls D)[i * 11 + j]? = _
    have h4 := ncl_len v
    rcases i with _ | i
    · rw [List.getElem?_append_left (by omega)]; simp
    · rw [List.getElem?_append_right (by omega), h4, show (i + 1) * 11 + j - 11 = i * 11 + j by omega, ih i (by simpa using hi)]; simp
theorem ncls_one (D : List Nd) : ∀ u ∈ ncls D, u.oneCell' = true := by
  intro u hu
  obtain ⟨v, _, h⟩ := List.mem_flatMap.1 hu
  simp only [ncl, List.mem_cons, List.not_mem_nil, or_false] at h
  rcases h with rfl | rfl | rfl | rfl | rfl | rfl | rfl | rfl | rfl | rfl | rfl <;> rfl
theorem infoN : ∃ i, Tryd.prog.info? 39 = some i ∧ i.zero = some (nOf nz) ∧ i.size = 11 ∧ i.bytes = 96 :=
  ⟨(Tryd.prog.info? 39).get (by kernel_rfl), by kernel_rfl, by kernel_rfl, by kernel_rfl, by kernel_rfl⟩
/- its numbers -/
structure Rg (n : Nd) : Prop where
  k0 : 0 ≤ n.k
  k1 : n.k < 256
  l0 : 0 ≤ n.lo
  l1 : n.lo < 256
  h0 : 0 ≤ n.hi
  h1 : n.hi < 256
  s0 : -9223372036854775808 ≤ n.s
  s1 : n.s ≤ 9223372036854775807
/- a question whose tests lie in a block of their own, beside a row -/
structure QB (w : World) (B : Nat) (v : Value) (q : Qu) : Prop where
  own : OwnT w B (.slice q.a q.n q.c) q.L
  len : q.L.length = q.n
  few : q.n ≤ 10
  ok : ∀ t ∈ q.L, Okt t
  dis : ∀ g, (Value.slice q.a q.n q.c).ownBlock = some g → v.ownBlock ≠ some g
theorem OwnT.sameB {w w' : World} {B : Nat} {v : Value} {L : List TT} (h : OwnT w B v L) (e : ∀ g, v.ownBlock = some g → g < w.heap.size → w'.heap[g]? = w.heap[g]?) : OwnT w' B v L := by
  refine ⟨h.1, ?_⟩
  rcases h.2 with h0 | ⟨g, cap, cur, hv, hg, hh, r⟩
  · exact .inl h0
  · refine .inr ⟨g, cap, cur, hv, hg, ?_, r⟩
    rw [e g (by rw [hv]; rfl) ?_]
    · exact hh
    · rcases Nat.lt_or_ge g w.heap.size with h1 | h1
      · exact h1
      · rw [Array.getElem?_eq_none h1] at hh; cases hh
theorem QB.qok {w : World} {B : Nat} {v : Value} {q : Qu} (h : QB w B v q) : Qok w q := ⟨h.len, h.few, h.own.vals, h.ok⟩
theorem QB.below {w w' : World} {B : Nat} {v : Value} {q : Qu} (h : QB w B v q) (hb : Below w.heap.size w w') : QB w' B v q := ⟨h.own.below hb, h.len, h.few, h.ok, h.dis⟩
theorem QB.set {w : World} {B : Nat} {v : Value} {q : Qu} (h : QB w B v q) (g j : Nat) (hg : g < B) (x : Value) : QB (w.setCell ⟨g, j, none⟩ x) B v q := ⟨h.own.setCell g j hg x, h.len, h.few, h.ok, h.dis⟩
def OwnN (w : World) (B : Nat) (v : Value) (D : List Nd) : Prop := w.ownsRow B 39 11 v D.length (ncls D) ∧ ∀ n ∈ D, QB w B v n.p ∧ QB w B v n.g ∧ Rg n
theorem rowN_below {w w' : World} {B n : Nat} {v : Value} {cs : List Value} (h : w.ownsRow B 39 11 v n cs) (hb : Below w.heap.size w w') : w'.ownsRow B 39 11 v n cs := by
  refine ⟨h.1, ?_⟩
  rcases h.2 with h0 | ⟨g, cap, cur, hv, hg, hh, r⟩
  · exact .inl h0
  · refine .inr ⟨g, cap, cur, hv, hg, ?_, r⟩
    rw [hb.block g ?_]
    · exact hh
    · rcases Nat.lt_or_ge g w.heap.size with h1 | h1
      · exact h1
      · rw [Array.getElem?_eq_none h1] at hh; cases hh
theorem rowN_set {w : World} {B n : Nat} {v : Value} {cs : List Value} (h : w.ownsRow B 39 11 v n cs) (g j : Nat) (hg : g < B) (x : Value) : (w.setCell ⟨g, j, none⟩ x).ownsRow B 39 11 v n cs := by
  refine ⟨h.1, ?_⟩
  rcases h.2 with h0 | ⟨r, cap, cur, hv, hr, hh, t⟩
  · exact .inl h0
  · refine .inr ⟨r, cap, cur, hv, hr, ?_, t⟩
    rw [heap_setCell_other w ⟨g, j, none⟩ r x (by show r ≠ g; omega)]
    exact hh
theorem OwnN.below {w w' : World} {B : Nat} {v : Value} {D : List Nd} (h : OwnN w B v D) (hb : Below w.heap.size w w') : OwnN w' B v D := ⟨rowN_below h.1 hb, fun n hn => ⟨(h.2 n hn).1.below hb, (h.2 n hn).2.1.below hb, (h.2 n hn).2.2⟩⟩
theorem OwnN.set {w : World} {B : Nat} {v : Value} {D : List Nd} (h : OwnN w B v D) (g j : Nat) (hg : g < B) (x : Value) : OwnN (w.setCell ⟨g, j, none⟩ x) B v D := ⟨rowN_set h.1 g j hg x, fun n hn => ⟨(h.2 n hn).1.set g j hg x, (h.2 n hn).2.1.set g j hg x, (h.2 n hn).2.2⟩⟩
theorem OwnN.nil (w : World) (B : Nat) : OwnN w B (.slice none 0 0) [] := ⟨World.ownsRow_nil w B 39 11, fun n hn => by simp at hn⟩
theorem OwnN.form {w : World} {B : Nat} {v : Value} {D : List Nd} (h : OwnN w B v D) : ∃ A c, v = .slice A D.length c ∧ Nds w A D ∧ D.length ≤ c := by
  rcases h.1.2 with ⟨rfl, h0⟩ | ⟨g, cap, cur, rfl, _, _, hcap, _⟩
  · have : D = [] := List.eq_nil_of_length_eq_zero h0
    subst this
    exact ⟨none, 0, rfl, Nds.nil _ _, Nat.le_refl _⟩
  · refine ⟨_, _, rfl, fun i hi => ⟨g, 0, rfl, ?_⟩, by omega⟩
    have key : ∀ j u, j < 11 → (ncl (D.getD i nz))[j]? = some u → w.cell? ⟨g, 0 + i * 11 + j, none⟩ = some u := fun j u hj hu => by
      have := World.ownsRow.cells h.1 (g := g) rfl (i * 11 + j) u (by rw [ncls_get D i hi j hj]; exact hu)
      rwa [add_plain, ← Nat.add_assoc] at this
    exact ⟨key 0 _ (by omega) rfl, key 1 _ (by omega) rfl, key 2 _ (by omega) rfl, key 3 _ (by omega) rfl, key 4 _ (by omega) rfl, key 5 _ (by omega) rfl, key 6 _ (by omega) rfl, key 7 _ (by omega) rfl, key 8 _ (by omega) rfl, key 9 _ (by omega) rfl, key 10 _ (by omega) rfl⟩
theorem OwnN.pt {w : World} {B : Nat} {A : Option Addr} {k c : Nat} {D : List Nd} (h : OwnN w B (.slice A k c) D) (hk : D.length = k) (h4 : k ≤ 1000) : Pt w A k c D := by
  obtain ⟨A', c', e, hr, hc⟩ := h.form
  injection e with e1 e2 e3
  subst e1 e3
  refine ⟨hk, h4, by omega, hr, fun v hv => ?_⟩
  obtain ⟨q1, q2, r⟩ := h.2 v hv
  exact ⟨q1.qok, q2.qok, r.k0, r.k1, r.l0, r.l1, r.h0, r.h1, r.s0, r.s1⟩
theorem OwnN.lt {w : World} {B : Nat} {v : Value} {D : List Nd} (h : OwnN w B v D) (g : Nat) (hg : v.ownBlock = some g) : B ≤ g ∧ g < w.heap.size := World.ownsRow.lt h.1 g hg
theorem OwnN.app {w : World} {B : Nat} {v : Value} {D : List Nd} (ho : OwnN w B v D) (ty : TypeId) (g : Nat) (nd : Nd) (hc : Atn w g 0 nd) (hp : QB w B v nd.p) (hg : QB w B v nd.g) (hr : Rg nd) (hlen : D.length ≤ 100000) (hB : B ≤ w.heap.size) (m cc : Nat) (hm : D.length + 1 = m) :
    ∃ A' c' w', (Builtin.append_ #[26, 26] ty #[v, .slice (some ⟨g, 0, none⟩) 1 cc]).run Tryd.prog w = .ok (.slice A' m c') w' ∧ OwnN w' B (.slice A' m c') (D ++ [nd]) ∧ w.grownBy w' v.ownBlock ∧ Below B w w' := by
  obtain ⟨i, hi, hz, hsz, hy⟩ := infoN
  obtain ⟨v', w', hrun, r2, r3, _, r5⟩ := run_append_own_at (P := Tryd.prog) w B 26 ty 39 i (nOf nz) 11 96 Tryd.underlying26 hi hz hsz hy rfl (by omega) v D.length (ncls D) ho.1 ⟨g, 0, none⟩ 1 cc (ncl nd) rfl
    (fun j u hj => by
      have hjl : j < 11 := by
        rcases Nat.lt_or_ge j (ncl nd).length with h | h
        · exact h
        · rw [List.getElem?_eq_none h] at hj; cases hj
      obtain ⟨c0, c1, c2, c3, c4, c5, c6, c7, c8, c9, c10⟩ := hc
      rw [add_plain]
      rcases j with _ | _ | _ | _ | _ | _ | _ | _ | _ | _ | _ | j
      · rw [Nat.add_zero, c0]; exact hj
      · rw [c1]; exact hj
      · rw [c2]; exact hj
      · rw [c3]; exact hj
      · rw [c4]; exact hj
      · rw [c5]; exact hj
      · rw [c6]; exact hj
      · rw [c7]; exact hj
      · rw [c8]; exact hj
      · rw [c9]; exact hj
      · rw [c10]; exact hj
      · omega)
    (fun u hu => ncls_one [nd] u (by simpa [ncls] using hu)) (by unfold maxLen; omega) (by omega) hB
  have hBel : Below B w w' := (Below.refl _ _).grown r3 hB (fun k hk => (World.ownsRow.lt ho.1 k hk).1)
  have old : ∀ q, QB w B v q → QB w' B v' q := fun q hq =>
    ⟨hq.own.sameB (fun b hb hlt => r3.block b hlt (Ne.symm (hq.dis b hb))), hq.len, hq.few, hq.ok, fun b hb => by
      rcases r5 with e | e
      · rw [e]; exact hq.dis b hb
      · rw [e]; intro e2; injection e2 with e2
        have := (World.ownsRow.lt hq.own b hb).2
        omega⟩
  have hO : OwnN w' B v' (D ++ [nd]) := by
    refine ⟨by rw [List.length_append, ncls_app]; simpa [ncls] using r2, fun n hn => ?_⟩
    rcases List.mem_append.1 hn with hn | hn
    · exact ⟨old _ (ho.2 n hn).1, old _ (ho.2 n hn).2.1, (ho.2 n hn).2.2⟩
    · rw [List.mem_singleton] at hn
      subst hn
      exact ⟨old _ hp, old _ hg, hr⟩
  obtain ⟨A', c', rfl, _⟩ := hO.form
  have ek : (D ++ [nd]).length = m := by rw [List.length_append, List.length_singleton, hm]
  rw [ek] at hO hrun
  exact ⟨A', c', w', hrun, hO, r3, hBel⟩
theorem step_appn {ops : Array Oper} {o : Oper} {a : Act} {K : Act → World → Prop} {Q : Exit → Act → World → Prop} {E : Prop} (w : World) (hgd : o.guard = none) (s x : Operand)
    (hop : o.op = .call { callee := .builtin .append, args := #[s, x], argTypes := #[26, 26] })
    (B : Nat) (v : Value) (D : List Nd) (hs : a.eval s = v) (ho : OwnN w B v D) (g : Nat) (nd : Nd) (hx : a.eval x = .slice (some ⟨g, 0, none⟩) 1 1) (hc : Atn w g 0 nd) (hp : QB w B v nd.p) (hg : QB w B v nd.g) (hr : Rg nd)
    (k : Nat) (hk : D.length + 1 = k) (hlen : k ≤ 100000) (hB : B ≤ w.heap.size)
    (h : ∀ A' c' w', OwnN w' B (.slice A' k c') (D ++ [nd]) → w.grownBy w' v.ownBlock → Below B w w' → K (a.put o.dst (.slice A' k c')) w') :
    if Region.wanted o (yielded ops a.tmps) = true then Oper.wp Tryd.prog o a w K Q else E := by
  have hw : Region.wanted o (yielded ops a.tmps) = true := by simp [Region.wanted, hgd]
  rw [if_pos hw]
  obtain ⟨A', c', w', h1, h2, h3, h4⟩ := ho.app o.type g nd hc hp hg hr (by omega) hB k 1 hk
  unfold Oper.wp
  simp [execOp, hop, resolve, invoke, builtin, hs, hx, h1, Result.andThen]
  exact h A' c' w' h2 h3 h4
/- a pattern in a block of its own, whole: it may be stored into -/
def PtB (w : World) (g : Nat) (a : Option Addr) (n c : Nat) (win : Int) : Prop := w.heap[g]? = some (.cells #[.slice a n c, .int .u64 win] 28 (0, 0))
theorem PtB.c0 {w : World} {g : Nat} {a : Option Addr} {n c : Nat} {win : Int} (h : PtB w g a n c win) : w.cell? ⟨g, 0, none⟩ = some (.slice a n c) := by rw [cell_of_row w g 0 _ _ _ h]; rfl
theorem PtB.c1 {w : World} {g : Nat} {a : Option Addr} {n c : Nat} {win : Int} (h : PtB w g a n c win) : w.cell? ⟨g, 1, none⟩ = some (.int .u64 win) := by rw [cell_of_row w g 1 _ _ _ h]; rfl
theorem PtB.free {w : World} {g : Nat} {a : Option Addr} {n c : Nat} {win : Int} (h : PtB w g a n c win) (j : Nat) : w.frozen? ⟨g, j, none⟩ = false := by
  simp [World.frozen?, PtB] at h ⊢
  simp [h]
theorem PtB.lt {w : World} {g : Nat} {a : Option Addr} {n c : Nat} {win : Int} (h : PtB w g a n c win) : g < w.heap.size := World.block_lt_of_cell? _ _ h.c0
theorem PtB.below {B : Nat} {w w' : World} {g : Nat} {a : Option Addr} {n c : Nat} {win : Int} (h : PtB w g a n c win) (hb : Below B w w') (hg : g < B) : PtB w' g a n c win := by unfold PtB; rw [hb.block g hg]; exact h
theorem PtB.next {w w' : World} {g : Nat} {a : Option Addr} {n c : Nat} {win : Int} (h : PtB w g a n c win) (hb : Below w.heap.size w w') : PtB w' g a n c win := h.below hb h.lt
theorem PtB.alloc (w : World) (a : Option Addr) (n c : Nat) (win : Int) : PtB (w.alloc (ptobj a n c win)) w.heap.size a n c win := heap_alloc_new w _
theorem PtB.set {w : World} {g : Nat} {a : Option Addr} {n c : Nat} {win : Int} (h : PtB w g a n c win) (a' : Option Addr) (n' c' : Nat) : PtB (w.setCell ⟨g, 0, none⟩ (.slice a' n' c')) g a' n' c' win := by
  unfold PtB
  rw [heap_setCell_same w g 0 _ _ _ h]
  rfl
theorem PtB.other {w : World} {g : Nat} {a : Option Addr} {n c : Nat} {win : Int} (h : PtB w g a n c win) (g' j : Nat) (v : Value) (hne : g ≠ g') : PtB (w.setCell ⟨g', j, none⟩ v) g a n c win := by
  unfold PtB
  rw [heap_setCell_other w ⟨g', j, none⟩ g v hne]
  exact h
structure Rpt (w W : World) (win : Int) (A : Option Addr) (k c : Nat) (D : List Nd) : Prop where
  res : PtB W (w.heap.size + 1) none 0 0 0
  loc : PtB W (w.heap.size + 1 + 1) A k c win
  own : OwnN W (w.heap.size + 3) (.slice A k c) D
  bel : Below w.heap.size w W
  big : w.heap.size + 3 ≤ W.heap.size
theorem Rpt.next {w W W' : World} {win : Int} {A : Option Addr} {k c : Nat} {D : List Nd} (h : Rpt w W win A k c D) (hb : Below W.heap.size W W') : Rpt w W' win A k c D :=
  ⟨h.res.next hb, h.loc.next hb, h.own.below hb, below_go h.bel hb, Nat.le_trans h.big hb.size⟩
theorem Rpt.start (w : World) (win : Int) (o : Obj) : Rpt w (((w.alloc o).alloc (ptobj none 0 0 0)).alloc (ptobj none 0 0 win)) win none 0 0 [] := by
  have h1 := (PtB.alloc (w.alloc o) none 0 0 0).next (below_alloc _ (ptobj none 0 0 win))
  have h2 := PtB.alloc ((w.alloc o).alloc (ptobj none 0 0 0)) none 0 0 win
  simp only [World.size_alloc] at h1 h2
  exact ⟨h1, h2, OwnN.nil _ _, below_go (below_go (below_alloc w _) (below_alloc _ _)) (below_alloc _ _), by simp⟩
theorem Rpt.step {w W W' : World} {win : Int} {A : Option Addr} {k c : Nat} {D : List Nd} (h : Rpt w W win A k c D) {A' : Option Addr} {k' c' : Nat} {D' : List Nd} (ho : OwnN W' (w.heap.size + 3) (.slice A' k' c') D') (hb : Below (w.heap.size + 3) W W') :
    Rpt w (W'.setCell ⟨w.heap.size + 1 + 1, 0, none⟩ (.slice A' k' c')) win A' k' c' D' :=
  ⟨(h.res.below hb (by omega)).other _ _ _ (by omega), (h.loc.below hb (by omega)).set _ _ _, ho.set _ _ (by omega) _, (h.bel.trans (hb.mono (by omega))).setCell (by show w.heap.size ≤ w.heap.size + 1 + 1; omega) _, by rw [World.size_setCell]; exact Nat.le_trans h.big hb.size⟩
/- what statements are handed -/
structure RQ (w : World) (q : Qu) : Prop where
  len : q.L.length = q.n
  few : q.n ≤ maxLen
  row : Rawts w q.a q.L
  ok : ∀ t ∈ q.L, Okt t
structure RN (w : World) (a : Option Addr) (L : List Nd) : Prop where
  row : Nds w a L
  q : ∀ v ∈ L, RQ w v.p ∧ RQ w v.g ∧ Rg v
theorem RQ.below {w w' : World} {q : Qu} (h : RQ w q) (hb : Below w.heap.size w w') : RQ w' q := ⟨h.len, h.few, h.row.below hb, h.ok⟩
theorem RN.below {w w' : World} {a : Option Addr} {L : List Nd} (h : RN w a L) (hb : Below w.heap.size w w') : RN w' a L := ⟨h.row.below hb, fun v hv => ⟨(h.q v hv).1.below hb, (h.q v hv).2.1.below hb, (h.q v hv).2.2⟩⟩
/- what a node tells, its questions' tests cut to so many -/
def cq (m : Nat) (q : Qu) : Bool × Int × List TT := (q.x, q.t, q.L.take m)
def cn (m : Nat) (n : Nd) : Int × (Bool × Int × List TT) × Bool × (Bool × Int × List TT) × Int × Int × Int := (n.k, cq m n.p, n.y, cq m n.g, n.lo, n.hi, n.s)
abbrev xnobj (n : Nd) : Obj := .cells #[.int .u8 n.k, .bool n.p.x, .int .u8 n.p.t, .slice n.p.a n.p.n n.p.c, .bool n.y, .bool n.g.x, .int .u8 n.g.t, .slice n.g.a n.g.n n.g.c, .int .u8 n.lo, .int .u8 n.hi, .int .i64 n.s] 59
abbrev xpobj (a : Option Addr) (n c : Nat) (win : Int) : Obj := .cells #[.slice a n c, .int .u64 win] 25
def Sn (W : World) (g : Nat) (n : Nd) : Prop :=
  W.cell? ⟨g, 0, none⟩ = some (.int .u8 n.k) ∧ W.cell? ⟨g, 1, none⟩ = some (.bool n.p.x) ∧ W.cell? ⟨g, 2, none⟩ = some (.int .u8 n.p.t) ∧ W.cell? ⟨g, 3, none⟩ = some (.slice n.p.a n.p.n n.p.c) ∧
  W.cell? ⟨g, 4, none⟩ = some (.bool n.y) ∧ W.cell? ⟨g, 5, none⟩ = some (.bool n.g.x) ∧ W.cell? ⟨g, 6, none⟩ = some (.int .u8 n.g.t) ∧ W.cell? ⟨g, 7, none⟩ = some (.slice n.g.a n.g.n n.g.c) ∧
  W.cell? ⟨g, 8, none⟩ = some (.int .u8 n.lo) ∧ W.cell? ⟨g, 9, none⟩ = some (.int .u8 n.hi) ∧ W.cell? ⟨g, 10, none⟩ = some (.int .i64 n.s)
theorem sn_start (w : World) (n : Nd) : Sn (w.alloc (xnobj n)).drew w.heap.size n := by refine ⟨?_, ?_, ?_, ?_, ?_, ?_, ?_, ?_, ?_, ?_, ?_⟩ <;> simp [go_sem]
theorem sn_lt {W : World} {g : Nat} {n : Nd} (h : Sn W g n) : g < W.heap.size := World.block_lt_of_cell? _ _ h.1
theorem sn_same {W W' : World} {g : Nat} {n : Nd} (h : Sn W g n) (e : ∀ j, W'.cell? ⟨g, j, none⟩ = W.cell? ⟨g, j, none⟩) : Sn W' g n := by
  obtain ⟨h0, h1, h2, h3, h4, h5, h6, h7, h8, h9, h10⟩ := h
  refine ⟨?_, ?_, ?_, ?_, ?_, ?_, ?_, ?_, ?_, ?_, ?_⟩ <;> (rw [e]; assumption)
theorem sn_below {W W' : World} {g : Nat} {n : Nd} (hb : Below W.heap.size W W') (h : Sn W g n) : Sn W' g n := sn_same h fun j => hb.cell (p := ⟨g, j, none⟩) (sn_lt h)
theorem sn_alloc {W : World} {ob : Obj} {g : Nat} {n : Nd} (h : Sn W g n) : Sn (W.alloc ob) g n := sn_below (below_alloc W ob) h
theorem sn_grown {W W' : World} {row : Option Nat} {g : Nat} {n : Nd} (hg : W.grownBy W' row) (hr : Hid (∀ k, row = some k → k < g)) (h : Sn W g n) : Sn W' g n :=
  sn_same h fun j => by
    have := hg.block g (sn_lt h) (fun e => by have := hr.out g e.symm; omega)
    unfold World.cell?
    simp only [this]
theorem sn_set {W : World} {g g' jj : Nat} {v : Value} {n : Nd} (hne : Hid (g' < g)) (h : Sn W g n) : Sn (W.setCell ⟨g', jj, none⟩ v) g n :=
  sn_same h fun j => by
    have := heap_setCell_other W ⟨g', jj, none⟩ g v (by have := hne.out; show g ≠ g'; omega)
    unfold World.cell?
    simp only [this]
/- a question just made, behind a row -/
theorem QB.made {w : World} {B B' : Nat} {v : Value} {x : Bool} {t : Int} {A : Option Addr} {k c : Nat} {L : List TT} (h : OwnT w B' (.slice A k c) L) (hl : L.length = k) (hk : k ≤ 10) (ok : ∀ t ∈ L, Okt t) (hB : B ≤ B') (hv : ∀ g, v.ownBlock = some g → g < B') : QB w B v ⟨x, t, A, k, c, L⟩ :=
  ⟨h.mono hB, hl, hk, ok, fun g hg e => by have := (World.ownsRow.lt h g hg).1; have := hv g e; omega⟩
end Go.Proofs.YtnjndlbhnkhlhaaDoor
