/- Contracts, joined: TrQ, TrR, TrS. -/
import Derived.Test.YtpnllbojifnopaaGreatDoorMW
import Derived.Test.YtpnllbojifnopaaGreatDoorME
/- Rows of nodes of one's own; what statements are handed: nodes by their questions' values' bits. -/
namespace Go.Proofs.YtpnllbojifnopaaGreatDoor
open Go Go.RowKit Pk Rl
set_option maxRecDepth 20000

def ncls (D : List Nd) : List Value := D.flatMap ncl
theorem ncl_len (n : Nd) : (ncl n).length = 11 := rfl
theorem ncls_len (D : List Nd) : (ncls D).length = D.length * 11 := by
  induction D with
  | nil => rfl
  | cons v D ih => show (ncl v ++ ncls D).length = _; rw [List.length_append, ih, List.length_cons, ncl_len]; omega
theorem ncls_app (X Y : List Nd) : ncls (X ++ Y) = ncls X ++ ncls Y := by unfold ncls; rw [List.flatMap_append]
theorem ncls_get (D : List Nd) (i : Nat) (hi : i < D.length) (j : Nat) (hj : j < 11) : (ncls D)[i * 11 + j]? = (ncl (D.getD i nz))[j]? := by
  induction D generalizing i with
  | nil => simp at hi
  | cons v D ih =>
    show (ncl v ++ ncls D)[i * 11 + j]? = _
    have h4 := ncl_len v
    rcases i with _ | i
    · rw [List.getElem?_append_left (by omega)]; simp
    · rw [List.getElem?_append_right (by omega), h4, show (i + 1) * 11 + j - 11 = i * 11 + j by omega, ih i (by simpa using hi)]; simp
theorem ncls_one (D : List Nd) : ∀ u ∈ ncls D, u.oneCell' = true := by
  intro u hu
  obtain ⟨v, _, h⟩ := List.mem_flatMap.1 hu
  simp only [ncl, List.mem_cons, List.not_mem_nil, or_false] at h
  rcases h with rfl | rfl | rfl | rfl | rfl | rfl | rfl | rfl | rfl | rfl | rfl <;> rfl
theorem infoN : ∃ i, Tryz.prog.info? 57 = some i ∧ i.zero = some (nOf nz) ∧ i.size = 11 ∧ i.bytes = 96 :=
  ⟨(Tryz.prog.info? 57).get (by kernel_rfl), by kernel_rfl, by kernel_rfl, by kernel_rfl, by kernel_rfl⟩
/- its numbers -/
structure Rg (n : Nd) : Prop where
  k0 : 0 ≤ n.k
  k1 : n.k < 256
  l0 : 0 ≤ n.lo
  l1 : n.lo < 256
  h0 : 0 ≤ n.hi
  h1 : n.hi < 256
  s0 : -9223372036854775808 ≤ n.s
  s1 : n.s ≤ 9223372036854775807
/- a question whose tests lie in a block of their own, beside a row -/
structure QB (w : World) (B : Nat) (v : Value) (q : Qu) : Prop where
  own : OwnT w B (.slice q.a q.n q.c) q.L
  len : q.L.length = q.n
  few : q.n ≤ 10
  ok : ∀ t ∈ q.L, Okt t
  dis : ∀ g, (Value.slice q.a q.n q.c).ownBlock = some g → v.ownBlock ≠ some g
theorem OwnT.sameB {w w' : World} {B : Nat} {v : Value} {L : List TT} (h : OwnT w B v L) (e : ∀ g, v.ownBlock = some g → g < w.heap.size → w'.heap[g]? = w.heap[g]?) : OwnT w' B v L := by
  refine ⟨h.1, ?_⟩
  rcases h.2 with h0 | ⟨g, cap, cur, hv, hg, hh, r⟩
  · exact .inl h0
  · refine .inr ⟨g, cap, cur, hv, hg, ?_, r⟩
    rw [e g (by rw [hv]; rfl) ?_]
    · exact hh
    · rcases Nat.lt_or_ge g w.heap.size with h1 | h1
      · exact h1
      · rw [Array.getElem?_eq_none h1] at hh; cases hh
theorem QB.qok {w : World} {B : Nat} {v : Value} {q : Qu} (h : QB w B v q) : Qok w q := ⟨h.len, h.few, h.own.vals, h.ok⟩
theorem QB.below {w w' : World} {B : Nat} {v : Value} {q : Qu} (h : QB w B v q) (hb : Below w.heap.size w w') : QB w' B v q := ⟨h.own.below hb, h.len, h.few, h.ok, h.dis⟩
theorem QB.set {w : World} {B : Nat} {v : Value} {q : Qu} (h : QB w B v q) (g j : Nat) (hg : g < B) (x : Value) : QB (w.setCell ⟨g, j, none⟩ x) B v q := ⟨h.own.setCell g j hg x, h.len, h.few, h.ok, h.dis⟩
def OwnN (w : World) (B : Nat) (v : Value) (D : List Nd) : Prop := w.ownsRow B 57 11 v D.length (ncls D) ∧ ∀ n ∈ D, QB w B v n.p ∧ QB w B v n.g ∧ Rg n
theorem rowN_below {w w' : World} {B n : Nat} {v : Value} {cs : List Value} (h : w.ownsRow B 57 11 v n cs) (hb : Below w.heap.size w w') : w'.ownsRow B 57 11 v n cs := by
  refine ⟨h.1, ?_⟩
  rcases h.2 with h0 | ⟨g, cap, cur, hv, hg, hh, r⟩
  · exact .inl h0
  · refine .inr ⟨g, cap, cur, hv, hg, ?_, r⟩
    rw [hb.block g ?_]
    · exact hh
    · rcases Nat.lt_or_ge g w.heap.size with h1 | h1
      · exact h1
      · rw [Array.getElem?_eq_none h1] at hh; cases hh
theorem rowN_set {w : World} {B n : Nat} {v : Value} {cs : List Value} (h : w.ownsRow B 57 11 v n cs) (g j : Nat) (hg : g < B) (x : Value) : (w.setCell ⟨g, j, none⟩ x).ownsRow B 57 11 v n cs := by
  refine ⟨h.1, ?_⟩
  rcases h.2 with h0 | ⟨r, cap, cur, hv, hr, hh, t⟩
  · exact .inl h0
  · refine .inr ⟨r, cap, cur, hv, hr, ?_, t⟩
    rw [heap_setCell_other w ⟨g, j, none⟩ r x (by show r ≠ g; omega)]
    exact hh
theorem OwnN.below {w w' : World} {B : Nat} {v : Value} {D : List Nd} (h : OwnN w B v D) (hb : Below w.heap.size w w') : OwnN w' B v D := ⟨rowN_below h.1 hb, fun n hn => ⟨(h.2 n hn).1.below hb, (h.2 n hn).2.1.below hb, (h.2 n hn).2.2⟩⟩
theorem OwnN.set {w : World} {B : Nat} {v : Value} {D : List Nd} (h : OwnN w B v D) (g j : Nat) (hg : g < B) (x : Value) : OwnN (w.setCell ⟨g, j, none⟩ x) B v D := ⟨rowN_set h.1 g j hg x, fun n hn => ⟨(h.2 n hn).1.set g j hg x, (h.2 n hn).2.1.set g j hg x, (h.2 n hn).2.2⟩⟩
theorem OwnN.nil (w : World) (B : Nat) : OwnN w B (.slice none 0 0) [] := ⟨World.ownsRow_nil w B 57 11, fun n hn => by simp at hn⟩
theorem OwnN.form {w : World} {B : Nat} {v : Value} {D : List Nd} (h : OwnN w B v D) : ∃ A c, v = .slice A D.length c ∧ Nds w A D ∧ D.length ≤ c := by
  rcases h.1.2 with ⟨rfl, h0⟩ | ⟨g, cap, cur, rfl, _, _, hcap, _⟩
  · have : D = [] := List.eq_nil_of_length_eq_zero h0
    subst this
    exact ⟨none, 0, rfl, Nds.nil _ _, Nat.le_refl _⟩
  · refine ⟨_, _, rfl, fun i hi => ⟨g, 0, rfl, ?_⟩, by omega⟩
    have key : ∀ j u, j < 11 → (ncl (D.getD i nz))[j]? = some u → w.cell? ⟨g, 0 + i * 11 + j, none⟩ = some u := fun j u hj hu => by
      have := World.ownsRow.cells h.1 (g := g) rfl (i * 11 + j) u (by rw [ncls_get D i hi j hj]; exact hu)
      rwa [add_plain, ← Nat.add_assoc] at this
    exact ⟨key 0 _ (by omega) rfl, key 1 _ (by omega) rfl, key 2 _ (by omega) rfl, key 3 _ (by omega) rfl, key 4 _ (by omega) rfl, key 5 _ (by omega) rfl, key 6 _ (by omega) rfl, key 7 _ (by omega) rfl, key 8 _ (by omega) rfl, key 9 _ (by omega) rfl, key 10 _ (by omega) rfl⟩
theorem OwnN.pt {w : World} {B : Nat} {A : Option Addr} {k c : Nat} {D : List Nd} (h : OwnN w B (.slice A k c) D) (hk : D.length = k) (h4 : k ≤ 1000) : Pt w A k c D := by
  obtain ⟨A', c', e, hr, hc⟩ := h.form
  injection e with e1 e2 e3
  subst e1 e3
  refine ⟨hk, h4, by omega, hr, fun v hv => ?_⟩
  obtain ⟨q1, q2, r⟩ := h.2 v hv
  exact ⟨q1.qok, q2.qok, r.k0, r.k1, r.l0, r.l1, r.h0, r.h1, r.s0, r.s1⟩
theorem OwnN.lt {w : World} {B : Nat} {v : Value} {D : List Nd} (h : OwnN w B v D) (g : Nat) (hg : v.ownBlock = some g) : B ≤ g ∧ g < w.heap.size := World.ownsRow.lt h.1 g hg
theorem OwnN.app {w : World} {B : Nat} {v : Value} {D : List Nd} (ho : OwnN w B v D) (ty : TypeId) (g : Nat) (nd : Nd) (hc : Atn w g 0 nd) (hp : QB w B v nd.p) (hg : QB w B v nd.g) (hr : Rg nd) (hlen : D.length ≤ 100000) (hB : B ≤ w.heap.size) (m cc : Nat) (hm : D.length + 1 = m) :
    ∃ A' c' w', (Builtin.append_ #[26, 26] ty #[v, .slice (some ⟨g, 0, none⟩) 1 cc]).run Tryz.prog w = .ok (.slice A' m c') w' ∧ OwnN w' B (.slice A' m c') (D ++ [nd]) ∧ w.grownBy w' v.ownBlock ∧ Below B w w' := by
  obtain ⟨i, hi, hz, hsz, hy⟩ := infoN
  obtain ⟨v', w', hrun, r2, r3, _, r5⟩ := run_append_own_at (P := Tryz.prog) w B 26 ty 57 i (nOf nz) 11 96 Tryz.underlying26 hi hz hsz hy rfl (by omega) v D.length (ncls D) ho.1 ⟨g, 0, none⟩ 1 cc (ncl nd) rfl
    (fun j u hj => by
      have hjl : j < 11 := by
        rcases Nat.lt_or_ge j (ncl nd).length with h | h
        · exact h
        · rw [List.getElem?_eq_none h] at hj; cases hj
      obtain ⟨c0, c1, c2, c3, c4, c5, c6, c7, c8, c9, c10⟩ := hc
      rw [add_plain]
      rcases j with _ | _ | _ | _ | _ | _ | _ | _ | _ | _ | _ | j
      · rw [Nat.add_zero, c0]; exact hj
      · rw [c1]; exact hj
      · rw [c2]; exact hj
      · rw [c3]; exact hj
      · rw [c4]; exact hj
      · rw [c5]; exact hj
      · rw [c6]; exact hj
      · rw [c7]; exact hj
      · rw [c8]; exact hj
      · rw [c9]; exact hj
      · rw [c10]; exact hj
      · omega)
    (fun u hu => ncls_one [nd] u (by simpa [ncls] using hu)) (by unfold maxLen; omega) (by omega) hB
  have hBel : Below B w w' := (Below.refl _ _).grown r3 hB (fun k hk => (World.ownsRow.lt ho.1 k hk).1)
  have old : ∀ q, QB w B v q → QB w' B v' q := fun q hq =>
    ⟨hq.own.sameB (fun b hb hlt => r3.block b hlt (Ne.symm (hq.dis b hb))), hq.len, hq.few, hq.ok, fun b hb => by
      rcases r5 with e | e
      · rw [e]; exact hq.dis b hb
      · rw [e]; intro e2; injection e2 with e2
        have := (World.ownsRow.lt hq.own b hb).2
        omega⟩
  have hO : OwnN w' B v' (D ++ [nd]) := by
    refine ⟨by rw [List.length_append, ncls_app]; simpa [ncls] using r2, fun n hn => ?_⟩
    rcases List.mem_append.1 hn with hn | hn
    · exact ⟨old _ (ho.2 n hn).1, old _ (ho.2 n hn).2.1, (ho.2 n hn).2.2⟩
    · rw [List.mem_singleton] at hn
      subst hn
      exact ⟨old _ hp, old _ hg, hr⟩
  obtain ⟨A', c', rfl, _⟩ := hO.form
  have ek : (D ++ [nd]).length = m := by rw [List.length_append, List.length_singleton, hm]
  rw [ek] at hO hrun
  exact ⟨A', c', w', hrun, hO, r3, hBel⟩
theorem step_appn {ops : Array Oper} {o : Oper} {a : Act} {K : Act → World → Prop} {Q : Exit → Act → World → Prop} {E : Prop} (w : World) (hgd : o.guard = none) (s x : Operand)
    (hop : o.op = .call { callee := .builtin .append, args := #[s, x], argTypes := #[26, 26] })
    (B : Nat) (v : Value) (D : List Nd) (hs : a.eval s = v) (ho : OwnN w B v D) (g : Nat) (nd : Nd) (hx : a.eval x = .slice (some ⟨g, 0, none⟩) 1 1) (hc : Atn w g 0 nd) (hp : QB w B v nd.p) (hg : QB w B v nd.g) (hr : Rg nd)
    (k : Nat) (hk : D.length + 1 = k) (hlen : k ≤ 100000) (hB : B ≤ w.heap.size)
    (h : ∀ A' c' w', OwnN w' B (.slice A' k c') (D ++ [nd]) → w.grownBy w' v.ownBlock → Below B w w' → K (a.put o.dst (.slice A' k c')) w') :
    if Region.wanted o (yielded ops a.tmps) = true then Oper.wp Tryz.prog o a w K Q else E := by
  have hw : Region.wanted o (yielded ops a.tmps) = true := by simp [Region.wanted, hgd]
  rw [if_pos hw]
  obtain ⟨A', c', w', h1, h2, h3, h4⟩ := ho.app o.type g nd hc hp hg hr (by omega) hB k 1 hk
  unfold Oper.wp
  simp [execOp, hop, resolve, invoke, builtin, hs, hx, h1, Result.andThen]
  exact h A' c' w' h2 h3 h4
/- a pattern in a block of its own, whole: it may be stored into -/
def PtB (w : World) (g : Nat) (a : Option Addr) (n c : Nat) (win : Int) : Prop := w.heap[g]? = some (.cells #[.slice a n c, .int .u64 win] 28 (0, 0))
theorem PtB.c0 {w : World} {g : Nat} {a : Option Addr} {n c : Nat} {win : Int} (h : PtB w g a n c win) : w.cell? ⟨g, 0, none⟩ = some (.slice a n c) := by rw [cell_of_row w g 0 _ _ _ h]; rfl
theorem PtB.c1 {w : World} {g : Nat} {a : Option Addr} {n c : Nat} {win : Int} (h : PtB w g a n c win) : w.cell? ⟨g, 1, none⟩ = some (.int .u64 win) := by rw [cell_of_row w g 1 _ _ _ h]; rfl
theorem PtB.free {w : World} {g : Nat} {a : Option Addr} {n c : Nat} {win : Int} (h : PtB w g a n c win) (j : Nat) : w.frozen? ⟨g, j, none⟩ = false := by
  simp [World.frozen?, PtB] at h ⊢
  simp [h]
theorem PtB.lt {w : World} {g : Nat} {a : Option Addr} {n c : Nat} {win : Int} (h : PtB w g a n c win) : g < w.heap.size := World.block_lt_of_cell? _ _ h.c0
theorem PtB.below {B : Nat} {w w' : World} {g : Nat} {a : Option Addr} {n c : Nat} {win : Int} (h : PtB w g a n c win) (hb : Below B w w') (hg : g < B) : PtB w' g a n c win := by unfold PtB; rw [hb.block g hg]; exact h
theorem PtB.next {w w' : World} {g : Nat} {a : Option Addr} {n c : Nat} {win : Int} (h : PtB w g a n c win) (hb : Below w.heap.size w w') : PtB w' g a n c win := h.below hb h.lt
theorem PtB.alloc (w : World) (a : Option Addr) (n c : Nat) (win : Int) : PtB (w.alloc (ptobj a n c win)) w.heap.size a n c win := heap_alloc_new w _
theorem PtB.set {w : World} {g : Nat} {a : Option Addr} {n c : Nat} {win : Int} (h : PtB w g a n c win) (a' : Option Addr) (n' c' : Nat) : PtB (w.setCell ⟨g, 0, none⟩ (.slice a' n' c')) g a' n' c' win := by
  unfold PtB
  rw [heap_setCell_same w g 0 _ _ _ h]
  rfl
theorem PtB.other {w : World} {g : Nat} {a : Option Addr} {n c : Nat} {win : Int} (h : PtB w g a n c win) (g' j : Nat) (v : Value) (hne : g ≠ g') : PtB (w.setCell ⟨g', j, none⟩ v) g a n c win := by
  unfold PtB
  rw [heap_setCell_other w ⟨g', j, none⟩ g v hne]
  exact h
structure Rpt (w W : World) (win : Int) (A : Option Addr) (k c : Nat) (D : List Nd) : Prop where
  res : PtB W (w.heap.size + 1) none 0 0 0
  loc : PtB W (w.heap.size + 1 + 1) A k c win
  own : OwnN W (w.heap.size + 3) (.slice A k c) D
  bel : Below w.heap.size w W
  big : w.heap.size + 3 ≤ W.heap.size
theorem Rpt.next {w W W' : World} {win : Int} {A : Option Addr} {k c : Nat} {D : List Nd} (h : Rpt w W win A k c D) (hb : Below W.heap.size W W') : Rpt w W' win A k c D :=
  ⟨h.res.next hb, h.loc.next hb, h.own.below hb, below_go h.bel hb, Nat.le_trans h.big hb.size⟩
theorem Rpt.start (w : World) (win : Int) (o : Obj) : Rpt w (((w.alloc o).alloc (ptobj none 0 0 0)).alloc (ptobj none 0 0 win)) win none 0 0 [] := by
  have h1 := (PtB.alloc (w.alloc o) none 0 0 0).next (below_alloc _ (ptobj none 0 0 win))
  have h2 := PtB.alloc ((w.alloc o).alloc (ptobj none 0 0 0)) none 0 0 win
  simp only [World.size_alloc] at h1 h2
  exact ⟨h1, h2, OwnN.nil _ _, below_go (below_go (below_alloc w _) (below_alloc _ _)) (below_alloc _ _), by simp⟩
theorem Rpt.step {w W W' : World} {win : Int} {A : Option Addr} {k c : Nat} {D : List Nd} (h : Rpt w W win A k c D) {A' : Option Addr} {k' c' : Nat} {D' : List Nd} (ho : OwnN W' (w.heap.size + 3) (.slice A' k' c') D') (hb : Below (w.heap.size + 3) W W') :
    Rpt w (W'.setCell ⟨w.heap.size + 1 + 1, 0, none⟩ (.slice A' k' c')) win A' k' c' D' :=
  ⟨(h.res.below hb (by omega)).other _ _ _ (by omega), (h.loc.below hb (by omega)).set _ _ _, ho.set _ _ (by omega) _, (h.bel.trans (hb.mono (by omega))).setCell (by show w.heap.size ≤ w.heap.size + 1 + 1; omega) _, by rw [World.size_setCell]; exact Nat.le_trans h.big hb.size⟩
/- what statements are handed -/
structure RQ (w : World) (q : Qu) : Prop where
  len : q.L.length = q.n
  few : q.n ≤ maxLen
  row : Rawts w q.a q.L
  ok : ∀ t ∈ q.L, Okt t
structure RN (w : World) (a : Option Addr) (L : List Nd) : Prop where
  row : Nds w a L
  q : ∀ v ∈ L, RQ w v.p ∧ RQ w v.g ∧ Rg v
theorem RQ.below {w w' : World} {q : Qu} (h : RQ w q) (hb : Below w.heap.size w w') : RQ w' q := ⟨h.len, h.few, h.row.below hb, h.ok⟩
theorem RN.below {w w' : World} {a : Option Addr} {L : List Nd} (h : RN w a L) (hb : Below w.heap.size w w') : RN w' a L := ⟨h.row.below hb, fun v hv => ⟨(h.q v hv).1.below hb, (h.q v hv).2.1.below hb, (h.q v hv).2.2⟩⟩
/- what a node tells, its questions' tests cut to so many -/
def cq (m : Nat) (q : Qu) : Bool × Int × List TT := (q.x, q.t, q.L.take m)
def cn (m : Nat) (n : Nd) : Int × (Bool × Int × List TT) × Bool × (Bool × Int × List TT) × Int × Int × Int := (n.k, cq m n.p, n.y, cq m n.g, n.lo, n.hi, n.s)
abbrev xnobj (n : Nd) : Obj := .cells #[.int .u8 n.k, .bool n.p.x, .int .u8 n.p.t, .slice n.p.a n.p.n n.p.c, .bool n.y, .bool n.g.x, .int .u8 n.g.t, .slice n.g.a n.g.n n.g.c, .int .u8 n.lo, .int .u8 n.hi, .int .i64 n.s] 113
abbrev xpobj (a : Option Addr) (n c : Nat) (win : Int) : Obj := .cells #[.slice a n c, .int .u64 win] 25
def Sn (W : World) (g : Nat) (n : Nd) : Prop :=
  W.cell? ⟨g, 0, none⟩ = some (.int .u8 n.k) ∧ W.cell? ⟨g, 1, none⟩ = some (.bool n.p.x) ∧ W.cell? ⟨g, 2, none⟩ = some (.int .u8 n.p.t) ∧ W.cell? ⟨g, 3, none⟩ = some (.slice n.p.a n.p.n n.p.c) ∧
  W.cell? ⟨g, 4, none⟩ = some (.bool n.y) ∧ W.cell? ⟨g, 5, none⟩ = some (.bool n.g.x) ∧ W.cell? ⟨g, 6, none⟩ = some (.int .u8 n.g.t) ∧ W.cell? ⟨g, 7, none⟩ = some (.slice n.g.a n.g.n n.g.c) ∧
  W.cell? ⟨g, 8, none⟩ = some (.int .u8 n.lo) ∧ W.cell? ⟨g, 9, none⟩ = some (.int .u8 n.hi) ∧ W.cell? ⟨g, 10, none⟩ = some (.int .i64 n.s)
theorem sn_start (w : World) (n : Nd) : Sn (w.alloc (xnobj n)).drew w.heap.size n := by refine ⟨?_, ?_, ?_, ?_, ?_, ?_, ?_, ?_, ?_, ?_, ?_⟩ <;> simp [go_sem]
theorem sn_lt {W : World} {g : Nat} {n : Nd} (h : Sn W g n) : g < W.heap.size := World.block_lt_of_cell? _ _ h.1
theorem sn_same {W W' : World} {g : Nat} {n : Nd} (h : Sn W g n) (e : ∀ j, W'.cell? ⟨g, j, none⟩ = W.cell? ⟨g, j, none⟩) : Sn W' g n := by
  obtain ⟨h0, h1, h2, h3, h4, h5, h6, h7, h8, h9, h10⟩ := h
  refine ⟨?_, ?_, ?_, ?_, ?_, ?_, ?_, ?_, ?_, ?_, ?_⟩ <;> (rw [e]; assumption)
theorem sn_below {W W' : World} {g : Nat} {n : Nd} (hb : Below W.heap.size W W') (h : Sn W g n) : Sn W' g n := sn_same h fun j => hb.cell (p := ⟨g, j, none⟩) (sn_lt h)
theorem sn_alloc {W : World} {ob : Obj} {g : Nat} {n : Nd} (h : Sn W g n) : Sn (W.alloc ob) g n := sn_below (below_alloc W ob) h
theorem sn_grown {W W' : World} {row : Option Nat} {g : Nat} {n : Nd} (hg : W.grownBy W' row) (hr : Hid (∀ k, row = some k → k < g)) (h : Sn W g n) : Sn W' g n :=
  sn_same h fun j => by
    have := hg.block g (sn_lt h) (fun e => by have := hr.out g e.symm; omega)
    unfold World.cell?
    simp only [this]
theorem sn_set {W : World} {g g' jj : Nat} {v : Value} {n : Nd} (hne : Hid (g' < g)) (h : Sn W g n) : Sn (W.setCell ⟨g', jj, none⟩ v) g n :=
  sn_same h fun j => by
    have := heap_setCell_other W ⟨g', jj, none⟩ g v (by have := hne.out; show g ≠ g'; omega)
    unfold World.cell?
    simp only [this]
/- a question just made, behind a row -/
theorem QB.made {w : World} {B B' : Nat} {v : Value} {x : Bool} {t : Int} {A : Option Addr} {k c : Nat} {L : List TT} (h : OwnT w B' (.slice A k c) L) (hl : L.length = k) (hk : k ≤ 10) (ok : ∀ t ∈ L, Okt t) (hB : B ≤ B') (hv : ∀ g, v.ownBlock = some g → g < B') : QB w B v ⟨x, t, A, k, c, L⟩ :=
  ⟨h.mono hB, hl, hk, ok, fun g hg e => by have := (World.ownsRow.lt h g hg).1; have := hv g e; omega⟩
end Go.Proofs.YtpnllbojifnopaaGreatDoor

/- The statement's Pattern: patterns out of what statements are handed. -/
namespace Go.Proofs.YtpnllbojifnopaaGreatDoor
open Go Go.RowKit Pk Rl
set_option maxRecDepth 20000

theorem dtake_snoc (L : List Nd) (j : Nat) (h : j < L.length) : L.take (j + 1) = L.take j ++ [L.getD j nz] := by
  rw [List.take_succ_eq_append_getElem h, List.getD_eq_getElem?_getD, List.getElem?_eq_getElem h]; rfl
theorem cn_cut (k : Int) (x : Bool) (t : Int) (a : Option Addr) (n c : Nat) (L : List TT) (y : Bool) (x' : Bool) (t' : Int) (a' : Option Addr) (n' c' : Nat) (L' : List TT) (lo hi s : Int) (A A' : Option Addr) (K C K' C' : Nat) :
    cn 10 ⟨k, ⟨x, t, A, K, C, L.take 10⟩, y, ⟨x', t', A', K', C', L'.take 10⟩, lo, hi, s⟩ = cn 10 ⟨k, ⟨x, t, a, n, c, L⟩, y, ⟨x', t', a', n', c', L'⟩, lo, hi, s⟩ := by
  unfold cn cq
  simp only [List.take_take, Nat.min_self]
theorem QB.mono {w : World} {B B' : Nat} {v : Value} {q : Qu} (h : QB w B v q) (hB : B' ≤ B) : QB w B' v q := ⟨h.own.mono hB, h.len, h.few, h.ok, h.dis⟩
theorem OwnN.mono {w : World} {B B' : Nat} {v : Value} {D : List Nd} (h : OwnN w B v D) (hB : B' ≤ B) : OwnN w B' v D := by
  refine ⟨⟨h.1.1, ?_⟩, fun n hn => ⟨(h.2 n hn).1.mono hB, (h.2 n hn).2.1.mono hB, (h.2 n hn).2.2⟩⟩
  rcases h.1.2 with h0 | ⟨g, cap, cur, hv, hg, r⟩
  · exact .inl h0
  · exact .inr ⟨g, cap, cur, hv, Nat.le_trans hB hg, r⟩
set_option maxHeartbeats 16000000 in
theorem pattern_any (a : Option Addr) (n c : Nat) (L : List Nd) (win : Int) (w : World) (hn : L.length = n) (hm : n ≤ maxLen) (hv : RN w a L) :
    Calls Tryz.prog 11 #[ptv a n c win] w fun e w' => ∃ A k c' D, e = .returned (ptv A k c' win) ∧ D.length = k ∧ D.map (cn 10) = (L.take 40).map (cn 10) ∧ OwnN w' w.heap.size (.slice A k c') D ∧ Below w.heap.size w w' := by
  have R0 := Lib.hid (Rpt.start w win (xpobj a n c win))
  have HN := Lib.hid hn
  have HV := Lib.hid hv
  unfold maxLen at hm
  clear hn hv
  go_enter Tryz.func11, Tryz.ntmps11
  go_wp2
  go_loopw [12] (fun i W => ∃ (j : Nat) (A : Option Addr) (k c' : Nat), i = .int .i64 j ∧ j ≤ n ∧ k ≤ 40 ∧ Hid (∃ D, Rpt w W win A k c' D ∧ D.length = k ∧ D.map (cn 10) = (L.take (min j 40)).map (cn 10))) (fun i _ => n - (intOf i).toNat)
  case atStart => exact ⟨0, none, 0, 0, rfl, by omega, by omega, Lib.hid ⟨[], R0.out, rfl, rfl⟩⟩
  case round =>
    obtain ⟨j, A, k, c', rfl, hj, hk, H⟩ := hrel
    obtain ⟨M, hR, hMl, hMc⟩ := H.out
    have R1 := Lib.hid hR
    have HC := Lib.hid hMc
    have HL := Lib.hid hMl
    clear H R0 hR hMl hMc
    by_cases cj : j < n
    · obtain ⟨b, off, rfl, hat⟩ := (HV.out.row.below R1.out.bel) j (by have := HN.out; omega)
      have ME := Lib.hid (ngetD_mem L j (by have := HN.out; omega))
      have TS := Lib.hid (dtake_snoc L j (by have := HN.out; omega))
      obtain ⟨v, hv⟩ : ∃ v, L.getD j nz = v := ⟨_, rfl⟩
      rw [hv] at hat ME TS
      have HQ := Lib.hid ((HV.out.below R1.out.bel).q v ME.out)
      have e1 := R1.out.loc.c0
      have fr := R1.out.loc.free 0
      have zz : w.heap.size + 1 + 1 < wr.heap.size := by have := R1.out.big; omega
      clear hv ME
      by_cases c30 : j < 40
      · obtain ⟨nk, ⟨px, pt, pa, pn, pc, pL⟩, ny, ⟨gx, gt, ga, gn, gc, gL⟩, nlo, nhi, ns⟩ := v
        have HE : k = j := by have h1 := congrArg List.length HC.out; have := HL.out; have := HN.out; simp at h1; omega
        subst HE
        have CT := Lib.hid (show (L.take (min (k + 1) 40)).map (cn 10) = (M ++ [(⟨nk, ⟨px, pt, pa, pn, pc, pL⟩, ny, ⟨gx, gt, ga, gn, gc, gL⟩, nlo, nhi, ns⟩ : Nd)]).map (cn 10) by
          rw [Nat.min_eq_left (by omega), TS.out, List.map_append, List.map_append, HC.out, Nat.min_eq_left (by omega)])
        have KL := Lib.hid (show M.length + 1 = k + 1 by have := HL.out; omega)
        have K2 : Hid (∀ AP kP cP AG kG cG, (M ++ [(⟨nk, ⟨px, pt, AP, kP, cP, pL.take 10⟩, ny, ⟨gx, gt, AG, kG, cG, gL.take 10⟩, nlo, nhi, ns⟩ : Nd)]).length = k + 1 ∧ (M ++ [(⟨nk, ⟨px, pt, AP, kP, cP, pL.take 10⟩, ny, ⟨gx, gt, AG, kG, cG, gL.take 10⟩, nlo, nhi, ns⟩ : Nd)]).map (cn 10) = (M ++ [(⟨nk, ⟨px, pt, pa, pn, pc, pL⟩, ny, ⟨gx, gt, ga, gn, gc, gL⟩, nlo, nhi, ns⟩ : Nd)]).map (cn 10)) := Lib.hid fun AP kP cP AG kG cG => ⟨by rw [List.length_append]; exact KL.out, by
          rw [List.map_append, List.map_append]
          congr 1
          exact congrArg (fun z => [z]) (cn_cut nk px pt pa pn pc pL ny gx gt ga gn gc gL nlo nhi ns AP AG kP cP kG cG)⟩
        have OK := Lib.hid (show (∀ t ∈ pL.take 10, Okt t) ∧ (∀ t ∈ gL.take 10, Okt t) from ⟨fun t ht => HQ.out.1.ok t (List.mem_of_mem_take ht), fun t ht => HQ.out.2.1.ok t (List.mem_of_mem_take ht)⟩)
        have LE := Lib.hid (show (∀ m, (pL.take 10).length = m → m ≤ 10) ∧ (∀ m, (gL.take 10).length = m → m ≤ 10) from ⟨fun m h => by rw [← h, List.length_take]; omega, fun m h => by rw [← h, List.length_take]; omega⟩)
        have RR := Lib.hid (fun (AP : Option Addr) (kP cP : Nat) (l1 : List TT) (AG : Option Addr) (kG cG : Nat) (l2 : List TT) => (⟨HQ.out.2.2.k0, HQ.out.2.2.k1, HQ.out.2.2.l0, HQ.out.2.2.l1, HQ.out.2.2.h0, HQ.out.2.2.h1, HQ.out.2.2.s0, HQ.out.2.2.s1⟩ : Rg ⟨nk, ⟨px, pt, AP, kP, cP, l1⟩, ny, ⟨gx, gt, AG, kG, cG, l2⟩, nlo, nhi, ns⟩))
        have RV := Lib.hid (fun W (hW : Below wr.heap.size wr W) => pred_any px pt pa pn pc pL W HQ.out.1.len HQ.out.1.few (HQ.out.1.row.below hW))
        have RG := Lib.hid (fun W (hW : Below wr.heap.size wr W) => pred_any gx gt ga gn gc gL W HQ.out.2.1.len HQ.out.2.1.few (HQ.out.2.1.row.below hW))
        have SD := Lib.hid (sn_start wr ⟨nk, ⟨px, pt, pa, pn, pc, pL⟩, ny, ⟨gx, gt, ga, gn, gc, gL⟩, nlo, nhi, ns⟩)
        have BW1 : Hid (Below wr.heap.size wr (wr.alloc (xnobj ⟨nk, ⟨px, pt, pa, pn, pc, pL⟩, ny, ⟨gx, gt, ga, gn, gc, gL⟩, nlo, nhi, ns⟩)).drew) := Lib.hid (below_go (below_alloc wr _) (below_drewN _ _ 1))
        have RW := Lib.hid (show ∀ g, (Value.slice A k c').ownBlock = some g → g < wr.heap.size from fun g hg => (R1.out.own.lt g hg).2)
        have HB3 : Hid (w.heap.size + 3 ≤ wr.heap.size) := Lib.hid R1.out.big
        have NE : Hid (w.heap.size + 1 + 1 < wr.heap.size) := Lib.hid zz
        obtain ⟨q0, q1, q2, q3, q4, q5, q6, q7, q8, q9, q10⟩ := hat
        simp only at q0 q1 q2 q3 q4 q5 q6 q7 q8 q9 q10
        clear hj HQ HC HL TS HV
        go_wp2_with fail
        refine wp_region_noPanic ?_
        refine wp_region_held_drew (S := (fun W => W.cell? ⟨wr.heap.size, 0, none⟩ = some (.int .u8 nk) ∧ W.cell? ⟨wr.heap.size, 1, none⟩ = some (.bool px) ∧ W.cell? ⟨wr.heap.size, 2, none⟩ = some (.int .u8 pt) ∧ W.cell? ⟨wr.heap.size, 3, none⟩ = some (.slice pa pn pc) ∧ W.cell? ⟨wr.heap.size, 4, none⟩ = some (.bool ny) ∧ W.cell? ⟨wr.heap.size, 5, none⟩ = some (.bool gx) ∧ W.cell? ⟨wr.heap.size, 6, none⟩ = some (.int .u8 gt) ∧ W.cell? ⟨wr.heap.size, 7, none⟩ = some (.slice ga gn gc) ∧ W.cell? ⟨wr.heap.size, 8, none⟩ = some (.int .u8 nlo) ∧ W.cell? ⟨wr.heap.size, 9, none⟩ = some (.int .u8 nhi) ∧ W.cell? ⟨wr.heap.size, 10, none⟩ = some (.int .i64 ns))) (by kernel_rfl) (by exact SD.out) (fun hHeld0 => ?_)
        refine wpAnyH_take (i := 0) (v := ?_) rfl (by kernel_rfl) (by kernel_rfl) (by kernel_rfl) (fun _ _ _ h => h) (Or.inl ⟨by rfl, ?_⟩) hHeld0 ?_
        rotate_left
        · (intro W hSw; simp only [List.getElem_toArray, List.getElem_cons_zero]; (try dsimp only at hSw); go_simp; with_reducible rfl)
        simp only [List.getElem_toArray, List.getElem_cons_zero, Act.put, List.setIfInBounds_toArray, List.set_cons_zero, List.set_cons_succ]
        refine wpAnyH_take (i := 2) (v := ?_) rfl (by kernel_rfl) (by kernel_rfl) (by kernel_rfl) (fun _ _ _ h => h) (Or.inl ⟨by rfl, ?_⟩) hHeld0 ?_
        rotate_left
        · (intro W hSw; simp only [List.getElem_toArray, List.getElem_cons_succ, List.getElem_cons_zero]; (try dsimp only at hSw); go_simp; with_reducible rfl)
        simp only [List.getElem_toArray, List.getElem_cons_succ, List.getElem_cons_zero, Act.put, List.setIfInBounds_toArray, List.set_cons_zero, List.set_cons_succ]
        refine wpAnyH_take (i := 3) (v := ?_) rfl (by kernel_rfl) (by kernel_rfl) (by kernel_rfl) (fun _ _ _ h => h) (Or.inl ⟨by rfl, ?_⟩) hHeld0 ?_
        rotate_left
        · (intro W hSw; simp only [List.getElem_toArray, List.getElem_cons_succ, List.getElem_cons_zero]; (try dsimp only at hSw); go_simp; with_reducible rfl)
        simp only [List.getElem_toArray, List.getElem_cons_succ, List.getElem_cons_zero, Act.put, List.setIfInBounds_toArray, List.set_cons_zero, List.set_cons_succ]
        refine wpAnyH_take (i := 4) (v := ?_) rfl (by kernel_rfl) (by kernel_rfl) (by kernel_rfl) (fun _ _ _ h => h) (Or.inl ⟨by rfl, ?_⟩) hHeld0 ?_
        rotate_left
        · (intro W hSw; simp only [List.getElem_toArray, List.getElem_cons_succ, List.getElem_cons_zero]; (try dsimp only at hSw); go_simp; with_reducible rfl)
        simp only [List.getElem_toArray, List.getElem_cons_succ, List.getElem_cons_zero, Act.put, List.setIfInBounds_toArray, List.set_cons_zero, List.set_cons_succ]
        refine wpAnyH_take (i := 5) (v := ?_) rfl (by kernel_rfl) (by kernel_rfl) (by kernel_rfl) (fun _ _ _ h => h) (Or.inl ⟨by rfl, ?_⟩) hHeld0 ?_
        rotate_left
        · (intro W hSw; simp only [List.getElem_toArray, List.getElem_cons_succ, List.getElem_cons_zero]; (try dsimp only at hSw); go_simp; with_reducible rfl)
        simp only [List.getElem_toArray, List.getElem_cons_succ, List.getElem_cons_zero, Act.put, List.setIfInBounds_toArray, List.set_cons_zero, List.set_cons_succ]
        refine wpAnyH_take (i := 7) (v := ?_) rfl (by kernel_rfl) (by kernel_rfl) (by kernel_rfl) (fun _ _ _ h => h) (Or.inl ⟨by rfl, ?_⟩) hHeld0 ?_
        rotate_left
        · (intro W hSw; simp only [List.getElem_toArray, List.getElem_cons_succ, List.getElem_cons_zero]; (try dsimp only at hSw); go_simp; with_reducible rfl)
        simp only [List.getElem_toArray, List.getElem_cons_succ, List.getElem_cons_zero, Act.put, List.setIfInBounds_toArray, List.set_cons_zero, List.set_cons_succ]
        refine wpAnyH_take (i := 8) (v := ?_) rfl (by kernel_rfl) (by kernel_rfl) (by kernel_rfl) (fun _ _ _ h => h) (Or.inl ⟨by rfl, ?_⟩) hHeld0 ?_
        rotate_left
        · (intro W hSw; simp only [List.getElem_toArray, List.getElem_cons_succ, List.getElem_cons_zero]; (try dsimp only at hSw); go_simp; with_reducible rfl)
        simp only [List.getElem_toArray, List.getElem_cons_succ, List.getElem_cons_zero, Act.put, List.setIfInBounds_toArray, List.set_cons_zero, List.set_cons_succ]
        refine wpAnyH_take (i := 9) (v := ?_) rfl (by kernel_rfl) (by kernel_rfl) (by kernel_rfl) (fun _ _ _ h => h) (Or.inl ⟨by rfl, ?_⟩) hHeld0 ?_
        rotate_left
        · (intro W hSw; simp only [List.getElem_toArray, List.getElem_cons_succ, List.getElem_cons_zero]; (try dsimp only at hSw); go_simp; with_reducible rfl)
        simp only [List.getElem_toArray, List.getElem_cons_succ, List.getElem_cons_zero, Act.put, List.setIfInBounds_toArray, List.set_cons_zero, List.set_cons_succ]
        refine wpAnyH_take (i := 10) (v := ?_) rfl (by kernel_rfl) (by kernel_rfl) (by kernel_rfl) (fun _ _ _ h => h) (Or.inl ⟨by rfl, ?_⟩) hHeld0 ?_
        rotate_left
        · (intro W hSw; simp only [List.getElem_toArray, List.getElem_cons_succ, List.getElem_cons_zero]; (try dsimp only at hSw); go_simp; with_reducible rfl)
        simp only [List.getElem_toArray, List.getElem_cons_succ, List.getElem_cons_zero, Act.put, List.setIfInBounds_toArray, List.set_cons_zero, List.set_cons_succ]
        refine wpAnyH_take (i := 12) (v := ?_) rfl (by kernel_rfl) (by kernel_rfl) (by kernel_rfl) (fun _ _ _ h => h) (Or.inl ⟨by rfl, ?_⟩) hHeld0 ?_
        rotate_left
        · (intro W hSw; simp only [List.getElem_toArray, List.getElem_cons_succ, List.getElem_cons_zero]; (try dsimp only at hSw); go_simp; with_reducible rfl)
        simp only [List.getElem_toArray, List.getElem_cons_succ, List.getElem_cons_zero, Act.put, List.setIfInBounds_toArray, List.set_cons_zero, List.set_cons_succ]
        refine wpAnyH_take (i := 13) (v := ?_) rfl (by kernel_rfl) (by kernel_rfl) (by kernel_rfl) (fun _ _ _ h => h) (Or.inl ⟨by rfl, ?_⟩) hHeld0 ?_
        rotate_left
        · (intro W hSw; simp only [List.getElem_toArray, List.getElem_cons_succ, List.getElem_cons_zero]; (try dsimp only at hSw); go_simp; with_reducible rfl)
        simp only [List.getElem_toArray, List.getElem_cons_succ, List.getElem_cons_zero, Act.put, List.setIfInBounds_toArray, List.set_cons_zero, List.set_cons_succ]
        refine wpAnyH_take (i := 14) (v := ?_) rfl (by kernel_rfl) (by kernel_rfl) (by kernel_rfl) (fun _ _ _ h => h) (Or.inl ⟨by rfl, ?_⟩) hHeld0 ?_
        rotate_left
        · (intro W hSw; simp only [List.getElem_toArray, List.getElem_cons_succ, List.getElem_cons_zero]; (try dsimp only at hSw); go_simp; with_reducible rfl)
        simp only [List.getElem_toArray, List.getElem_cons_succ, List.getElem_cons_zero, Act.put, List.setIfInBounds_toArray, List.set_cons_zero, List.set_cons_succ]
        refine wpAnyH_take (i := 15) (v := ?_) rfl (by kernel_rfl) (by kernel_rfl) (by kernel_rfl) (fun _ _ _ h => h) (Or.inl ⟨by rfl, ?_⟩) hHeld0 ?_
        rotate_left
        · (intro W hSw; simp only [List.getElem_toArray, List.getElem_cons_succ, List.getElem_cons_zero]; (try dsimp only at hSw); go_simp; with_reducible rfl)
        simp only [List.getElem_toArray, List.getElem_cons_succ, List.getElem_cons_zero, Act.put, List.setIfInBounds_toArray, List.set_cons_zero, List.set_cons_succ]
        refine wpAnyH_take (i := 16) (v := ?_) rfl (by kernel_rfl) (by kernel_rfl) (by kernel_rfl) (fun _ _ _ h => h) (Or.inl ⟨by rfl, ?_⟩) hHeld0 ?_
        rotate_left
        · (intro W hSw; simp only [List.getElem_toArray, List.getElem_cons_succ, List.getElem_cons_zero]; (try dsimp only at hSw); go_simp; with_reducible rfl)
        simp only [List.getElem_toArray, List.getElem_cons_succ, List.getElem_cons_zero, Act.put, List.setIfInBounds_toArray, List.set_cons_zero, List.set_cons_succ]
        refine wpAnyH_take (i := 17) (v := ?_) rfl (by kernel_rfl) (by kernel_rfl) (by kernel_rfl) (fun _ _ _ h => h) (Or.inl ⟨by rfl, ?_⟩) hHeld0 ?_
        rotate_left
        · (intro W hSw; simp only [List.getElem_toArray, List.getElem_cons_succ, List.getElem_cons_zero]; (try dsimp only at hSw); go_simp; with_reducible rfl)
        simp only [List.getElem_toArray, List.getElem_cons_succ, List.getElem_cons_zero, Act.put, List.setIfInBounds_toArray, List.set_cons_zero, List.set_cons_succ]
        refine wpAnyH_ready (rs := [1, 6]) (by kernel_rfl) (by simp) ?_
        refine AllReadyH.cons rfl (fun K hK => ?_) (AllReadyH.cons rfl (fun K hK => ?_) (AllReadyH.nil))
        · (try simp only [List.getElem_toArray, List.getElem_cons_succ, List.getElem_cons_zero])
          go_simp
          refine hK.out _ _ (by exact hHeld0) (fun hHeld1 => ?_)
          clear hK K hHeld0
          refine wpAnyH_ready (rs := [6]) (by kernel_rfl) (by simp) ?_
          refine AllReadyH.cons rfl (fun K hK => ?_) (AllReadyH.nil)
          (try simp only [List.getElem_toArray, List.getElem_cons_succ, List.getElem_cons_zero])
          go_simp
          go_wp2_with (go_at_call 40; refine (RV.out _ BW1.out).mono ?_; rintro e w2 ⟨AP, kP, cP, rfl, hlP, hoP, b2⟩; have R2 := Lib.hid ((R1.out.next (below_alloc wr _)).next ((below_drewN _ _ 1).trans b2)); have BW2 := Lib.hid (below_go BW1.out b2); have OP2 := Lib.hid (hoP.mono (by simp) : OwnT w2 wr.heap.size (.slice AP kP cP) _); have LP := Lib.hid hlP; clear hoP hlP; have e2 := R2.out.loc.c0; have fr2 := R2.out.loc.free 0; have zz2 : w.heap.size + 1 + 1 < w2.heap.size := (by have := R2.out.big; omega))
          refine hK.out _ _ (by exact sn_below (g := wr.heap.size) (n := ⟨nk, ⟨px, pt, pa, pn, pc, pL⟩, ny, ⟨gx, gt, ga, gn, gc, gL⟩, nlo, nhi, ns⟩) b2 hHeld1) (fun hHeld2 => ?_)
          clear hK K hHeld1
          refine wpAnyH_ready (rs := [11]) (by kernel_rfl) (by simp) ?_
          refine AllReadyH.cons rfl (fun K hK => ?_) (AllReadyH.nil)
          (try simp only [List.getElem_toArray, List.getElem_cons_succ, List.getElem_cons_zero])
          go_simp
          go_wp2_with (go_at_call 40; refine (RG.out _ BW2.out).mono ?_; rintro e w3 ⟨AG, kG, cG, rfl, hlG, hoG, b3⟩; have R3 := Lib.hid (R2.out.next b3); have BW3 := Lib.hid (below_go BW2.out b3); have OP3 := Lib.hid (OP2.out.below b3); have OG3 := Lib.hid (hoG.mono BW2.out.size : OwnT w3 wr.heap.size (.slice AG kG cG) _); have LG := Lib.hid hlG; clear hoG hlG; have e3 := R3.out.loc.c0; have fr3 := R3.out.loc.free 0; have zz3 : w.heap.size + 1 + 1 < w3.heap.size := (by have := R3.out.big; omega))
          refine hK.out _ _ (by exact sn_below (g := wr.heap.size) (n := ⟨nk, ⟨px, pt, pa, pn, pc, pL⟩, ny, ⟨gx, gt, ga, gn, gc, gL⟩, nlo, nhi, ns⟩) b3 hHeld2) (fun hHeld3 => ?_)
          clear hK K hHeld2
          refine wpAnyH_take (i := 18) (v := ?_) rfl (by kernel_rfl) (by kernel_rfl) (by kernel_rfl) (fun _ _ _ h => h) (Or.inl ⟨by rfl, ?_⟩) hHeld3 ?_
          rotate_left
          · (intro W hSw; simp only [List.getElem_toArray, List.getElem_cons_succ, List.getElem_cons_zero]; (try dsimp only at hSw); go_simp; with_reducible rfl)
          simp only [List.getElem_toArray, List.getElem_cons_succ, List.getElem_cons_zero, Act.put, List.setIfInBounds_toArray, List.set_cons_zero, List.set_cons_succ]
          refine wpAnyH_ready (rs := [19]) (by kernel_rfl) (by simp) ?_
          refine AllReadyH.cons rfl (fun K hK => ?_) (AllReadyH.nil)
          (try simp only [List.getElem_toArray, List.getElem_cons_succ, List.getElem_cons_zero])
          go_simp
          refine hK.out _ _ (by exact sn_alloc (g := wr.heap.size) (n := ⟨nk, ⟨px, pt, pa, pn, pc, pL⟩, ny, ⟨gx, gt, ga, gn, gc, gL⟩, nlo, nhi, ns⟩) hHeld3) (fun hHeld4 => ?_)
          clear hK K hHeld3
          refine wpAnyH_ready (rs := [20]) (by kernel_rfl) (by simp) ?_
          refine AllReadyH.cons rfl (fun K hK => ?_) (AllReadyH.nil)
          refine step_appn _ (by rfl) (.tmp 20) (.tmp 38) (by rfl) (w.heap.size + 3) _ M (by rfl) (R3.out.own.below (below_alloc _ _)) _ ⟨nk, ⟨px, pt, AP, kP, cP, pL.take 10⟩, ny, ⟨gx, gt, AG, kG, cG, gL.take 10⟩, nlo, nhi, ns⟩ (by rfl) (Atn.alloc w3 ⟨nk, ⟨px, pt, AP, kP, cP, pL.take 10⟩, ny, ⟨gx, gt, AG, kG, cG, gL.take 10⟩, nlo, nhi, ns⟩) ((QB.made OP3.out LP.out (LE.out.1 _ LP.out) OK.out.1 HB3.out RW.out).below (below_alloc _ _)) ((QB.made OG3.out LG.out (LE.out.2 _ LG.out) OK.out.2 HB3.out RW.out).below (below_alloc _ _)) (RR.out _ _ _ _ _ _ _ _) (k + 1) KL.out (by omega) (by have := R3.out.big; simp; omega) ?_; intro A5 c5 w5 hO5 hg5 hb5; have L5 := (R3.out.next (below_alloc _ _)).loc.below hb5 (by omega); have e5 := L5.c0; have fr5 := L5.free 0; have R5 := Lib.hid ((R3.out.next (below_alloc _ _)).step hO5 hb5); clear L5 hO5 hb5
          refine hK.out _ _ (by exact sn_grown (g := wr.heap.size) (n := ⟨nk, ⟨px, pt, pa, pn, pc, pL⟩, ny, ⟨gx, gt, ga, gn, gc, gL⟩, nlo, nhi, ns⟩) hg5 RW hHeld4) (fun hHeld5 => ?_)
          clear hK K hHeld4
          refine wpAnyH_take (i := 21) (v := ?_) rfl (by kernel_rfl) (by kernel_rfl) (by kernel_rfl) (fun _ _ _ h => h) (Or.inl ⟨by rfl, ?_⟩) hHeld5 ?_
          rotate_left
          · (intro W hSw; simp only [List.getElem_toArray, List.getElem_cons_succ, List.getElem_cons_zero]; (try dsimp only at hSw); go_simp; with_reducible rfl)
          simp only [List.getElem_toArray, List.getElem_cons_succ, List.getElem_cons_zero, Act.put, List.setIfInBounds_toArray, List.set_cons_zero, List.set_cons_succ]
          refine wpAnyH_ready (rs := [22]) (by kernel_rfl) (by simp) ?_
          refine AllReadyH.cons rfl (fun K hK => ?_) (AllReadyH.nil)
          (try simp only [List.getElem_toArray, List.getElem_cons_succ, List.getElem_cons_zero])
          go_simp
          refine hK.out _ _ (by exact sn_set (g := wr.heap.size) (n := ⟨nk, ⟨px, pt, pa, pn, pc, pL⟩, ny, ⟨gx, gt, ga, gn, gc, gL⟩, nlo, nhi, ns⟩) NE hHeld5) (fun hHeld6 => ?_)
          clear hK K hHeld5
          refine wpAnyH_done (by kernel_rfl) ?_ _
          refine NoPanic.normal ?_
          clear hHeld6
          clear e5 fr5 e2 fr2 zz2 e3 fr3 zz3 R3 R2 e1 fr zz R1 RV RG SD RW NE KL OP2 OP3 OG3
          rw [← CT.out] at K2
          go_wp2_with fail
          go_roundw
          case rel => exact ⟨k + 1, A5, k + 1, c5, by go_num, by omega, by omega, Lib.hid ⟨_, R5.out, K2.out _ _ _ _ _ _⟩⟩
          case measure => simp [intOf]; omega
        · (try simp only [List.getElem_toArray, List.getElem_cons_succ, List.getElem_cons_zero])
          go_simp
          go_wp2_with (go_at_call 40; refine (RV.out _ BW1.out).mono ?_; rintro e w2 ⟨AP, kP, cP, rfl, hlP, hoP, b2⟩; have R2 := Lib.hid ((R1.out.next (below_alloc wr _)).next ((below_drewN _ _ 1).trans b2)); have BW2 := Lib.hid (below_go BW1.out b2); have OP2 := Lib.hid (hoP.mono (by simp) : OwnT w2 wr.heap.size (.slice AP kP cP) _); have LP := Lib.hid hlP; clear hoP hlP; have e2 := R2.out.loc.c0; have fr2 := R2.out.loc.free 0; have zz2 : w.heap.size + 1 + 1 < w2.heap.size := (by have := R2.out.big; omega))
          refine hK.out _ _ (by exact sn_below (g := wr.heap.size) (n := ⟨nk, ⟨px, pt, pa, pn, pc, pL⟩, ny, ⟨gx, gt, ga, gn, gc, gL⟩, nlo, nhi, ns⟩) b2 hHeld0) (fun hHeld1 => ?_)
          clear hK K hHeld0
          refine wpAnyH_ready (rs := [1, 11]) (by kernel_rfl) (by simp) ?_
          refine AllReadyH.cons rfl (fun K hK => ?_) (AllReadyH.cons rfl (fun K hK => ?_) (AllReadyH.nil))
          · (try simp only [List.getElem_toArray, List.getElem_cons_succ, List.getElem_cons_zero])
            go_simp
            refine hK.out _ _ (by exact hHeld1) (fun hHeld2 => ?_)
            clear hK K hHeld1
            refine wpAnyH_ready (rs := [11]) (by kernel_rfl) (by simp) ?_
            refine AllReadyH.cons rfl (fun K hK => ?_) (AllReadyH.nil)
            (try simp only [List.getElem_toArray, List.getElem_cons_succ, List.getElem_cons_zero])
            go_simp
            go_wp2_with (go_at_call 40; refine (RG.out _ BW2.out).mono ?_; rintro e w3 ⟨AG, kG, cG, rfl, hlG, hoG, b3⟩; have R3 := Lib.hid (R2.out.next b3); have BW3 := Lib.hid (below_go BW2.out b3); have OP3 := Lib.hid (OP2.out.below b3); have OG3 := Lib.hid (hoG.mono BW2.out.size : OwnT w3 wr.heap.size (.slice AG kG cG) _); have LG := Lib.hid hlG; clear hoG hlG; have e3 := R3.out.loc.c0; have fr3 := R3.out.loc.free 0; have zz3 : w.heap.size + 1 + 1 < w3.heap.size := (by have := R3.out.big; omega))
            refine hK.out _ _ (by exact sn_below (g := wr.heap.size) (n := ⟨nk, ⟨px, pt, pa, pn, pc, pL⟩, ny, ⟨gx, gt, ga, gn, gc, gL⟩, nlo, nhi, ns⟩) b3 hHeld2) (fun hHeld3 => ?_)
            clear hK K hHeld2
            refine wpAnyH_take (i := 18) (v := ?_) rfl (by kernel_rfl) (by kernel_rfl) (by kernel_rfl) (fun _ _ _ h => h) (Or.inl ⟨by rfl, ?_⟩) hHeld3 ?_
            rotate_left
            · (intro W hSw; simp only [List.getElem_toArray, List.getElem_cons_succ, List.getElem_cons_zero]; (try dsimp only at hSw); go_simp; with_reducible rfl)
            simp only [List.getElem_toArray, List.getElem_cons_succ, List.getElem_cons_zero, Act.put, List.setIfInBounds_toArray, List.set_cons_zero, List.set_cons_succ]
            refine wpAnyH_ready (rs := [19]) (by kernel_rfl) (by simp) ?_
            refine AllReadyH.cons rfl (fun K hK => ?_) (AllReadyH.nil)
            (try simp only [List.getElem_toArray, List.getElem_cons_succ, List.getElem_cons_zero])
            go_simp
            refine hK.out _ _ (by exact sn_alloc (g := wr.heap.size) (n := ⟨nk, ⟨px, pt, pa, pn, pc, pL⟩, ny, ⟨gx, gt, ga, gn, gc, gL⟩, nlo, nhi, ns⟩) hHeld3) (fun hHeld4 => ?_)
            clear hK K hHeld3
            refine wpAnyH_ready (rs := [20]) (by kernel_rfl) (by simp) ?_
            refine AllReadyH.cons rfl (fun K hK => ?_) (AllReadyH.nil)
            refine step_appn _ (by rfl) (.tmp 20) (.tmp 38) (by rfl) (w.heap.size + 3) _ M (by rfl) (R3.out.own.below (below_alloc _ _)) _ ⟨nk, ⟨px, pt, AP, kP, cP, pL.take 10⟩, ny, ⟨gx, gt, AG, kG, cG, gL.take 10⟩, nlo, nhi, ns⟩ (by rfl) (Atn.alloc w3 ⟨nk, ⟨px, pt, AP, kP, cP, pL.take 10⟩, ny, ⟨gx, gt, AG, kG, cG, gL.take 10⟩, nlo, nhi, ns⟩) ((QB.made OP3.out LP.out (LE.out.1 _ LP.out) OK.out.1 HB3.out RW.out).below (below_alloc _ _)) ((QB.made OG3.out LG.out (LE.out.2 _ LG.out) OK.out.2 HB3.out RW.out).below (below_alloc _ _)) (RR.out _ _ _ _ _ _ _ _) (k + 1) KL.out (by omega) (by have := R3.out.big; simp; omega) ?_; intro A5 c5 w5 hO5 hg5 hb5; have L5 := (R3.out.next (below_alloc _ _)).loc.below hb5 (by omega); have e5 := L5.c0; have fr5 := L5.free 0; have R5 := Lib.hid ((R3.out.next (below_alloc _ _)).step hO5 hb5); clear L5 hO5 hb5
            refine hK.out _ _ (by exact sn_grown (g := wr.heap.size) (n := ⟨nk, ⟨px, pt, pa, pn, pc, pL⟩, ny, ⟨gx, gt, ga, gn, gc, gL⟩, nlo, nhi, ns⟩) hg5 RW hHeld4) (fun hHeld5 => ?_)
            clear hK K hHeld4
            refine wpAnyH_take (i := 21) (v := ?_) rfl (by kernel_rfl) (by kernel_rfl) (by kernel_rfl) (fun _ _ _ h => h) (Or.inl ⟨by rfl, ?_⟩) hHeld5 ?_
            rotate_left
            · (intro W hSw; simp only [List.getElem_toArray, List.getElem_cons_succ, List.getElem_cons_zero]; (try dsimp only at hSw); go_simp; with_reducible rfl)
            simp only [List.getElem_toArray, List.getElem_cons_succ, List.getElem_cons_zero, Act.put, List.setIfInBounds_toArray, List.set_cons_zero, List.set_cons_succ]
            refine wpAnyH_ready (rs := [22]) (by kernel_rfl) (by simp) ?_
            refine AllReadyH.cons rfl (fun K hK => ?_) (AllReadyH.nil)
            (try simp only [List.getElem_toArray, List.getElem_cons_succ, List.getElem_cons_zero])
            go_simp
            refine hK.out _ _ (by exact sn_set (g := wr.heap.size) (n := ⟨nk, ⟨px, pt, pa, pn, pc, pL⟩, ny, ⟨gx, gt, ga, gn, gc, gL⟩, nlo, nhi, ns⟩) NE hHeld5) (fun hHeld6 => ?_)
            clear hK K hHeld5
            refine wpAnyH_done (by kernel_rfl) ?_ _
            refine NoPanic.normal ?_
            clear hHeld6
            clear e5 fr5 e2 fr2 zz2 e3 fr3 zz3 R3 R2 e1 fr zz R1 RV RG SD RW NE KL OP2 OP3 OG3
            rw [← CT.out] at K2
            go_wp2_with fail
            go_roundw
            case rel => exact ⟨k + 1, A5, k + 1, c5, by go_num, by omega, by omega, Lib.hid ⟨_, R5.out, K2.out _ _ _ _ _ _⟩⟩
            case measure => simp [intOf]; omega
          · (try simp only [List.getElem_toArray, List.getElem_cons_succ, List.getElem_cons_zero])
            go_simp
            go_wp2_with (go_at_call 40; refine (RG.out _ BW2.out).mono ?_; rintro e w3 ⟨AG, kG, cG, rfl, hlG, hoG, b3⟩; have R3 := Lib.hid (R2.out.next b3); have BW3 := Lib.hid (below_go BW2.out b3); have OP3 := Lib.hid (OP2.out.below b3); have OG3 := Lib.hid (hoG.mono BW2.out.size : OwnT w3 wr.heap.size (.slice AG kG cG) _); have LG := Lib.hid hlG; clear hoG hlG; have e3 := R3.out.loc.c0; have fr3 := R3.out.loc.free 0; have zz3 : w.heap.size + 1 + 1 < w3.heap.size := (by have := R3.out.big; omega))
            refine hK.out _ _ (by exact sn_below (g := wr.heap.size) (n := ⟨nk, ⟨px, pt, pa, pn, pc, pL⟩, ny, ⟨gx, gt, ga, gn, gc, gL⟩, nlo, nhi, ns⟩) b3 hHeld1) (fun hHeld2 => ?_)
            clear hK K hHeld1
            refine wpAnyH_take (i := 18) (v := ?_) rfl (by kernel_rfl) (by kernel_rfl) (by kernel_rfl) (fun _ _ _ h => h) (Or.inl ⟨by rfl, ?_⟩) hHeld2 ?_
            rotate_left
            · (intro W hSw; simp only [List.getElem_toArray, List.getElem_cons_succ, List.getElem_cons_zero]; (try dsimp only at hSw); go_simp; with_reducible rfl)
            simp only [List.getElem_toArray, List.getElem_cons_succ, List.getElem_cons_zero, Act.put, List.setIfInBounds_toArray, List.set_cons_zero, List.set_cons_succ]
            refine wpAnyH_ready (rs := [1, 19]) (by kernel_rfl) (by simp) ?_
            refine AllReadyH.cons rfl (fun K hK => ?_) (AllReadyH.cons rfl (fun K hK => ?_) (AllReadyH.nil))
            · (try simp only [List.getElem_toArray, List.getElem_cons_succ, List.getElem_cons_zero])
              go_simp
              refine hK.out _ _ (by exact hHeld2) (fun hHeld3 => ?_)
              clear hK K hHeld2
              refine wpAnyH_ready (rs := [19]) (by kernel_rfl) (by simp) ?_
              refine AllReadyH.cons rfl (fun K hK => ?_) (AllReadyH.nil)
              (try simp only [List.getElem_toArray, List.getElem_cons_succ, List.getElem_cons_zero])
              go_simp
              refine hK.out _ _ (by exact sn_alloc (g := wr.heap.size) (n := ⟨nk, ⟨px, pt, pa, pn, pc, pL⟩, ny, ⟨gx, gt, ga, gn, gc, gL⟩, nlo, nhi, ns⟩) hHeld3) (fun hHeld4 => ?_)
              clear hK K hHeld3
              refine wpAnyH_ready (rs := [20]) (by kernel_rfl) (by simp) ?_
              refine AllReadyH.cons rfl (fun K hK => ?_) (AllReadyH.nil)
              refine step_appn _ (by rfl) (.tmp 20) (.tmp 38) (by rfl) (w.heap.size + 3) _ M (by rfl) (R3.out.own.below (below_alloc _ _)) _ ⟨nk, ⟨px, pt, AP, kP, cP, pL.take 10⟩, ny, ⟨gx, gt, AG, kG, cG, gL.take 10⟩, nlo, nhi, ns⟩ (by rfl) (Atn.alloc w3 ⟨nk, ⟨px, pt, AP, kP, cP, pL.take 10⟩, ny, ⟨gx, gt, AG, kG, cG, gL.take 10⟩, nlo, nhi, ns⟩) ((QB.made OP3.out LP.out (LE.out.1 _ LP.out) OK.out.1 HB3.out RW.out).below (below_alloc _ _)) ((QB.made OG3.out LG.out (LE.out.2 _ LG.out) OK.out.2 HB3.out RW.out).below (below_alloc _ _)) (RR.out _ _ _ _ _ _ _ _) (k + 1) KL.out (by omega) (by have := R3.out.big; simp; omega) ?_; intro A5 c5 w5 hO5 hg5 hb5; have L5 := (R3.out.next (below_alloc _ _)).loc.below hb5 (by omega); have e5 := L5.c0; have fr5 := L5.free 0; have R5 := Lib.hid ((R3.out.next (below_alloc _ _)).step hO5 hb5); clear L5 hO5 hb5
              refine hK.out _ _ (by exact sn_grown (g := wr.heap.size) (n := ⟨nk, ⟨px, pt, pa, pn, pc, pL⟩, ny, ⟨gx, gt, ga, gn, gc, gL⟩, nlo, nhi, ns⟩) hg5 RW hHeld4) (fun hHeld5 => ?_)
              clear hK K hHeld4
              refine wpAnyH_take (i := 21) (v := ?_) rfl (by kernel_rfl) (by kernel_rfl) (by kernel_rfl) (fun _ _ _ h => h) (Or.inl ⟨by rfl, ?_⟩) hHeld5 ?_
              rotate_left
              · (intro W hSw; simp only [List.getElem_toArray, List.getElem_cons_succ, List.getElem_cons_zero]; (try dsimp only at hSw); go_simp; with_reducible rfl)
              simp only [List.getElem_toArray, List.getElem_cons_succ, List.getElem_cons_zero, Act.put, List.setIfInBounds_toArray, List.set_cons_zero, List.set_cons_succ]
              refine wpAnyH_ready (rs := [22]) (by kernel_rfl) (by simp) ?_
              refine AllReadyH.cons rfl (fun K hK => ?_) (AllReadyH.nil)
              (try simp only [List.getElem_toArray, List.getElem_cons_succ, List.getElem_cons_zero])
              go_simp
              refine hK.out _ _ (by exact sn_set (g := wr.heap.size) (n := ⟨nk, ⟨px, pt, pa, pn, pc, pL⟩, ny, ⟨gx, gt, ga, gn, gc, gL⟩, nlo, nhi, ns⟩) NE hHeld5) (fun hHeld6 => ?_)
              clear hK K hHeld5
              refine wpAnyH_done (by kernel_rfl) ?_ _
              refine NoPanic.normal ?_
              clear hHeld6
              clear e5 fr5 e2 fr2 zz2 e3 fr3 zz3 R3 R2 e1 fr zz R1 RV RG SD RW NE KL OP2 OP3 OG3
              rw [← CT.out] at K2
              go_wp2_with fail
              go_roundw
              case rel => exact ⟨k + 1, A5, k + 1, c5, by go_num, by omega, by omega, Lib.hid ⟨_, R5.out, K2.out _ _ _ _ _ _⟩⟩
              case measure => simp [intOf]; omega
            · (try simp only [List.getElem_toArray, List.getElem_cons_succ, List.getElem_cons_zero])
              go_simp
              refine hK.out _ _ (by exact sn_alloc (g := wr.heap.size) (n := ⟨nk, ⟨px, pt, pa, pn, pc, pL⟩, ny, ⟨gx, gt, ga, gn, gc, gL⟩, nlo, nhi, ns⟩) hHeld2) (fun hHeld3 => ?_)
              clear hK K hHeld2
              refine wpAnyH_ready (rs := [1]) (by kernel_rfl) (by simp) ?_
              refine AllReadyH.cons rfl (fun K hK => ?_) (AllReadyH.nil)
              (try simp only [List.getElem_toArray, List.getElem_cons_succ, List.getElem_cons_zero])
              go_simp
              refine hK.out _ _ (by exact hHeld3) (fun hHeld4 => ?_)
              clear hK K hHeld3
              refine wpAnyH_ready (rs := [20]) (by kernel_rfl) (by simp) ?_
              refine AllReadyH.cons rfl (fun K hK => ?_) (AllReadyH.nil)
              refine step_appn _ (by rfl) (.tmp 20) (.tmp 38) (by rfl) (w.heap.size + 3) _ M (by rfl) (R3.out.own.below (below_alloc _ _)) _ ⟨nk, ⟨px, pt, AP, kP, cP, pL.take 10⟩, ny, ⟨gx, gt, AG, kG, cG, gL.take 10⟩, nlo, nhi, ns⟩ (by rfl) (Atn.alloc w3 ⟨nk, ⟨px, pt, AP, kP, cP, pL.take 10⟩, ny, ⟨gx, gt, AG, kG, cG, gL.take 10⟩, nlo, nhi, ns⟩) ((QB.made OP3.out LP.out (LE.out.1 _ LP.out) OK.out.1 HB3.out RW.out).below (below_alloc _ _)) ((QB.made OG3.out LG.out (LE.out.2 _ LG.out) OK.out.2 HB3.out RW.out).below (below_alloc _ _)) (RR.out _ _ _ _ _ _ _ _) (k + 1) KL.out (by omega) (by have := R3.out.big; simp; omega) ?_; intro A5 c5 w5 hO5 hg5 hb5; have L5 := (R3.out.next (below_alloc _ _)).loc.below hb5 (by omega); have e5 := L5.c0; have fr5 := L5.free 0; have R5 := Lib.hid ((R3.out.next (below_alloc _ _)).step hO5 hb5); clear L5 hO5 hb5
              refine hK.out _ _ (by exact sn_grown (g := wr.heap.size) (n := ⟨nk, ⟨px, pt, pa, pn, pc, pL⟩, ny, ⟨gx, gt, ga, gn, gc, gL⟩, nlo, nhi, ns⟩) hg5 RW hHeld4) (fun hHeld5 => ?_)
              clear hK K hHeld4
              refine wpAnyH_take (i := 21) (v := ?_) rfl (by kernel_rfl) (by kernel_rfl) (by kernel_rfl) (fun _ _ _ h => h) (Or.inl ⟨by rfl, ?_⟩) hHeld5 ?_
              rotate_left
              · (intro W hSw; simp only [List.getElem_toArray, List.getElem_cons_succ, List.getElem_cons_zero]; (try dsimp only at hSw); go_simp; with_reducible rfl)
              simp only [List.getElem_toArray, List.getElem_cons_succ, List.getElem_cons_zero, Act.put, List.setIfInBounds_toArray, List.set_cons_zero, List.set_cons_succ]
              refine wpAnyH_ready (rs := [22]) (by kernel_rfl) (by simp) ?_
              refine AllReadyH.cons rfl (fun K hK => ?_) (AllReadyH.nil)
              (try simp only [List.getElem_toArray, List.getElem_cons_succ, List.getElem_cons_zero])
              go_simp
              refine hK.out _ _ (by exact sn_set (g := wr.heap.size) (n := ⟨nk, ⟨px, pt, pa, pn, pc, pL⟩, ny, ⟨gx, gt, ga, gn, gc, gL⟩, nlo, nhi, ns⟩) NE hHeld5) (fun hHeld6 => ?_)
              clear hK K hHeld5
              refine wpAnyH_done (by kernel_rfl) ?_ _
              refine NoPanic.normal ?_
              clear hHeld6
              clear e5 fr5 e2 fr2 zz2 e3 fr3 zz3 R3 R2 e1 fr zz R1 RV RG SD RW NE KL OP2 OP3 OG3
              rw [← CT.out] at K2
              go_wp2_with fail
              go_roundw
              case rel => exact ⟨k + 1, A5, k + 1, c5, by go_num, by omega, by omega, Lib.hid ⟨_, R5.out, K2.out _ _ _ _ _ _⟩⟩
              case measure => simp [intOf]; omega
      · have TS2 := Lib.hid (show L.take (min (j + 1) 40) = L.take (min j 40) by rw [Nat.min_eq_right (by omega), Nat.min_eq_right (by omega)])
        rw [← TS2.out] at HC
        clear TS2 TS HQ
        obtain ⟨nk, ⟨px, pt, pa, pn, pc, pL⟩, ny, ⟨gx, gt, ga, gn, gc, gL⟩, nlo, nhi, ns⟩ := v
        obtain ⟨q0, q1, q2, q3, q4, q5, q6, q7, q8, q9, q10⟩ := hat
        simp only at q0 q1 q2 q3 q4 q5 q6 q7 q8 q9 q10
        have R2 := Lib.hid (R1.out.next (below_alloc wr (xnobj ⟨nk, ⟨px, pt, pa, pn, pc, pL⟩, ny, ⟨gx, gt, ga, gn, gc, gL⟩, nlo, nhi, ns⟩)))
        go_wp2_with fail
        go_roundw
        case rel => exact ⟨j + 1, A, k, c', by go_num, by omega, by omega, Lib.hid ⟨M, R2.out, HL.out, HC.out⟩⟩
        case measure => simp [intOf]; omega
    · obtain rfl : j = n := by omega
      have TT' := Lib.hid (show L.take (min j 40) = L.take 40 by
        rcases Nat.lt_or_ge j 40 with h | h
        · rw [Nat.min_eq_left (by omega), List.take_of_length_le (by have := HN.out; omega), List.take_of_length_le (by have := HN.out; omega)]
        · rw [Nat.min_eq_right (by omega)])
      rw [TT'.out] at HC
      have e0 := R1.out.loc.c0
      have e1 := R1.out.loc.c1
      have r0 := R1.out.res.c0
      have r1 := R1.out.res.c1
      have f0 := R1.out.res.free 0
      have f1 := R1.out.res.free 1
      have zz : w.heap.size + 1 < wr.heap.size := by have := R1.out.big; omega
      have BB : Hid (Below w.heap.size w ((wr.setCell ⟨w.heap.size + 1, 0, none⟩ (.slice A k c')).setCell ⟨w.heap.size + 1, 1, none⟩ (.int .u64 win))) := Lib.hid (((R1.out.bel).setCell (by show w.heap.size ≤ w.heap.size + 1; omega) _).setCell (by show w.heap.size ≤ w.heap.size + 1; omega) _)
      have OO := Lib.hid (((R1.out.own.set (w.heap.size + 1) 0 (by omega) (.slice A k c')).set (w.heap.size + 1) 1 (by omega) (.int .u64 win)).mono (show w.heap.size ≤ _ by omega))
      clear R1 TT' HV HN
      go_wp2_with fail
      exact bodyPost_ret (v := ptv A k c' win) (by simp [results, Tryz.results11, go_sem, *]) rfl ⟨A, k, c', M, rfl, HL.out, HC.out, OO.out, BB.out⟩
end Go.Proofs.YtpnllbojifnopaaGreatDoor

/- The document's Great. -/
namespace Go.Proofs.YtpnllbojifnopaaGreatDoor
open Go Go.RowKit Pk Rl
set_option maxRecDepth 20000

def gr (n : Nd) : Bool := pgreat n.p.L || pgreat n.g.L
def Sm (n : Nd) : Prop := (∀ t ∈ n.p.L, t.2.2.2.2.2.size ≤ maxLen) ∧ (∀ t ∈ n.g.L, t.2.2.2.2.2.size ≤ maxLen)
set_option maxHeartbeats 4000000 in
theorem rtgreat_any (a : Option Addr) (n c : Nat) (L : List Nd) (win : Int) (w : World) (hP : Pt w a n c L) (hS : ∀ v ∈ L, Sm v) (h50 : n ≤ 50) :
    Calls Tryz.prog 12 #[ptv a n c win] w fun e w' => e = .returned (.bool (L.any gr)) ∧ Below w.heap.size w w' := by
  have K0 := Lib.hid (Pbx.start w a n c win)
  have HN := Lib.hid hP.len
  have HP := Lib.hid hP
  have HS := Lib.hid hS
  obtain ⟨r, hr⟩ : ∃ r, L.any gr = r := ⟨_, rfl⟩
  rw [hr]
  have HR := Lib.hid hr
  clear hr hP hS
  have c50 : ¬ (50 : Int) < (n : Int) := by omega
  go_enter Tryz.func12, Tryz.ntmps12
  go_wp2_with fail
  go_loopw [11] (fun v26 W => ∃ (i : Nat), v26 = .int .i64 (i : Int) ∧ i ≤ n ∧ Hid (Pbx w W w.heap.size a n c win ∧ (L.take i).any gr = false)) (fun v26 _ => n - (intOf v26).toNat)
  case atStart => exact ⟨0, rfl, by omega, Lib.hid ⟨K0.out, rfl⟩⟩
  case round =>
    obtain ⟨i, rfl, hi, H⟩ := hrel
    have K1 := Lib.hid H.out.1
    have HD := Lib.hid H.out.2
    clear H K0
    have p0 := K1.out.c0
    by_cases ci : i < n
    · obtain ⟨b, off, rfl, hat⟩ := (HP.out.row.below K1.out.bel) i (by have := HN.out; omega)
      have ME := Lib.hid (ngetD_mem L i (by have := HN.out; omega))
      have TS := Lib.hid (show L.take (i + 1) = L.take i ++ [L.getD i nz] by
        rw [List.take_succ_eq_append_getElem (by have := HN.out; omega), List.getD_eq_getElem?_getD, List.getElem?_eq_getElem (by have := HN.out; omega)]; rfl)
      obtain ⟨x, hx⟩ : ∃ x, L.getD i nz = x := ⟨_, rfl⟩
      rw [hx] at hat TS ME
      have NK := HP.out.ok x ME.out
      have SX := HS.out x ME.out
      have M1 := Lib.hid (fun W (hW : Below w.heap.size w W) => pgreat_any x.p.x x.p.t x.p.a x.p.n x.p.c x.p.L W NK.p.len (by have := NK.p.few; omega) (NK.p.row.below hW) SX.1)
      have M2 := Lib.hid (fun W (hW : Below w.heap.size w W) => pgreat_any x.g.x x.g.t x.g.a x.g.n x.g.c x.g.L W NK.g.len (by have := NK.g.few; omega) (NK.g.row.below hW) SX.2)
      obtain ⟨z1, hz1⟩ : ∃ z, pgreat x.p.L = z := ⟨_, rfl⟩
      obtain ⟨z2, hz2⟩ : ∃ z, pgreat x.g.L = z := ⟨_, rfl⟩
      rw [hz1] at M1
      rw [hz2] at M2
      have HZ := Lib.hid (show gr x = (z1 || z2) by unfold gr; rw [hz1, hz2])
      have TA := Lib.hid (show (z1 || z2) = false → (L.take (i + 1)).any gr = false from fun h => by rw [TS.out, List.any_append, HD.out, List.any_cons, HZ.out, h]; rfl)
      have TB := Lib.hid (show (z1 || z2) = true → L.any gr = true from fun h => List.any_eq_true.2 ⟨x, ME.out, by rw [HZ.out, h]⟩)
      clear hx hz1 hz2 NK ME TS HZ HD SX
      obtain ⟨xk, ⟨xx, xt, xa, xn, xc, xL⟩, xy, ⟨yx, yt, ya, yn, yc, yL⟩, xlo, xhi, xs⟩ := x
      have X1 := Lib.hid hat
      obtain ⟨e0, e1, e2, e3, e4, e5, e6, e7, e8, e9, e10⟩ := hat
      simp only at e0 e1 e2 e3 e4 e5 e6 e7 e8 e9 e10 M1 M2
      go_wp2_with fail
      refine (M1.out _ K1.out.bel).mono ?_
      rintro e w5 ⟨rfl, hb⟩
      have K5 := Lib.hid (K1.out.next hb)
      have X5 := Lib.hid (X1.out.below hb X1.out.lt)
      clear hb K1 X1 M1 p0 e0 e1 e2 e3 e4 e5 e6 e7 e8 e9 e10
      have p0 := K5.out.c0
      obtain ⟨e0, e1, e2, e3, e4, e5, e6, e7, e8, e9, e10⟩ := X5.out
      simp only at e0 e1 e2 e3 e4 e5 e6 e7 e8 e9 e10
      cases z1
      · go_wp2_with fail
        refine (M2.out _ K5.out.bel).mono ?_
        rintro e w6 ⟨rfl, hb⟩
        have K6 := Lib.hid (K5.out.next hb)
        clear hb K5 X5 M2 p0 e0 e1 e2 e3 e4 e5 e6 e7 e8 e9 e10
        cases z2
        · have TA2 := Lib.hid (TA.out (by first | rfl | trivial))
          clear TA TB
          go_wp2_with fail
          go_roundw
          case rel => exact ⟨i + 1, by go_num, by omega, Lib.hid ⟨K6.out, TA2.out⟩⟩
          case measure => simp [intOf]; omega
        · have HR1 := HR.out
          rw [TB.out (by first | rfl | trivial)] at HR1
          subst HR1
          clear TA TB
          go_wp2_with fail
          go_ret
          exact ⟨rfl, K6.out.bel⟩
      · have HR1 := HR.out
        rw [TB.out (by first | rfl | trivial)] at HR1
        subst HR1
        clear TA TB
        go_wp2_with fail
        go_ret
        exact ⟨rfl, K5.out.bel⟩
    · obtain rfl : i = n := by omega
      have E : r = false := by have := HD.out; rw [List.take_of_length_le (by have := HN.out; omega)] at this; rw [← HR.out, this]
      subst E
      clear HD HN HP p0
      go_wp2_with fail
      go_ret
      exact ⟨rfl, K1.out.bel⟩
end Go.Proofs.YtpnllbojifnopaaGreatDoor
