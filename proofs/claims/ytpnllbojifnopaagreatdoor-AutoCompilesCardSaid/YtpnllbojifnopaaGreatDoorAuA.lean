/- A question with a list of its own; rows of questions, of edges, of one's own; how far an automaton is made. -/
import Derived.Test.YtpnllbojifnopaaGreatDoorMT
import Derived.Maps.AppendAt
namespace Go.Proofs.YtpnllbojifnopaaGreatDoor
open Go Go.RowKit Pk Rl
set_option maxRecDepth 20000

set_option maxHeartbeats 1000000 in
theorem tclone_any (a : Option Addr) (n c : Nat) (L : List TT) (w : World) (hn : L.length = n) (hm : n ≤ 1000) (hv : Tsts w a L) :
    Calls Tryz.prog 139 #[.slice a n c] w fun e w' => ∃ A c', e = .returned (.slice A n c') ∧ OwnT w' w.heap.size (.slice A n c') L ∧ Below w.heap.size w w' := by
  rcases a with _ | ad
  · have hl : L = [] := by
      rcases L with _ | ⟨x, L⟩
      · rfl
      · obtain ⟨b, off, h, _⟩ := hv 0 (by simp)
        cases h
    subst hl
    subst hn
    have en : ∀ w, (binOp .eql 43 (.slice none 0 c) (.slice none 0 0)).run Tryz.prog w = .ok (.bool true) w := fun w => Lib.run_eql_slice_nil w 43 171 none 0 c 0 0 Tryz.underlying43
    go_enter Tryz.func139, Tryz.ntmps139
    go_wp2
    go_ret
    exact ⟨none, 0, rfl, OwnT.nil _ _, Below.refl _ _⟩
  · have HN := Lib.hid hn
    have HV := Lib.hid (hv.below (below_alloc w (.cells #[] 171)))
    have B0 := Lib.hid (below_alloc w (.cells #[] 171))
    have O0 := Lib.hid (OwnT.empty w)
    have HK := Lib.hid (show ([] ++ L).length = n by simpa using hn)
    have en : ∀ w, (binOp .eql 43 (.slice (some ad) n c) (.slice none 0 0)).run Tryz.prog w = .ok (.bool false) w := fun w => Lib.run_eql_slice_nil w 43 171 (some ad) n c 0 0 Tryz.underlying43
    clear hn hv
    go_enter Tryz.func139, Tryz.ntmps139
    go_wp2_with (at_builtin; refine wp_appt (.tmp 5) (.tmp 6) _ rfl rfl w.heap.size _ [] rfl O0.out (some ad) n c L rfl HN.out HV.out (by intro h; cases h) n HK.out (by omega) B0.out.size ?_; intro A' c' w1 hO1 hb1)
    go_ret
    exact ⟨A', c', rfl, hO1, B0.out.trans hb1⟩
/- questions and edges by value -/
abbrev VQ := Bool × Int × List TT
def vq (q : Qu) : VQ := (q.x, q.t, q.L)
structure Ed where
  f : Nat
  t : Nat
  y : Bool
  g : Qu
abbrev EV := Nat × Nat × Bool × VQ
def ve (e : Ed) : EV := (e.f, e.t, e.y, vq e.g)
/- what own answers of a question -/
structure Qm (w : World) (B : Nat) (q : Qu) : Prop where
  own : OwnT w B (.slice q.a q.n q.c) q.L
  len : q.L.length = q.n
  few : q.n ≤ 10
  ok : ∀ t ∈ q.L, Okt t
theorem Qm.qok {w : World} {B : Nat} {q : Qu} (h : Qm w B q) : Qok w q := ⟨h.len, h.few, h.own.vals, h.ok⟩
theorem Qm.below {w w' : World} {B : Nat} {q : Qu} (h : Qm w B q) (hb : Below w.heap.size w w') : Qm w' B q := ⟨h.own.below hb, h.len, h.few, h.ok⟩
theorem Qm.mono {w : World} {B B' : Nat} {q : Qu} (h : Qm w B q) (hB : B' ≤ B) : Qm w B' q := ⟨h.own.mono hB, h.len, h.few, h.ok⟩
def OwR (w : World) (q : Qu) (e : Ending) (w' : World) : Prop := ∃ q' : Qu, e = .returned (qv q') ∧ vq q' = vq q ∧ Qm w' w.heap.size q' ∧ Below w.heap.size w w'
set_option maxHeartbeats 2000000 in
theorem own_any (q : Qu) (w : World) (hq : Qok w q) : Calls Tryz.prog 114 #[qv q] w fun e w' => OwR w q e w' := by
  obtain ⟨x, t, a, n, c, L⟩ := q
  have hn := hq.len
  have hf := hq.few
  simp only at hn hf
  obtain ⟨w1, hw1⟩ : ∃ X, (w.alloc (pcells x t a n c)).alloc (pcells false 0 none 0 0) = X := ⟨_, rfl⟩
  have b1 : Below w.heap.size w w1 := hw1 ▸ below_go (below_alloc w _) (below_alloc _ _)
  have P0 : Pdb w1 w.heap.size x t a n c := hw1 ▸ (Pdb.alloc w x t a n c).next (below_alloc _ _)
  have P1 : Pdb w1 (w.heap.size + 1) false 0 none 0 0 := by have := Pdb.alloc (w.alloc (pcells x t a n c)) false 0 none 0 0; rw [World.size_alloc, hw1] at this; exact this
  have CL := Lib.hid (tclone_any a n c L w1 hn (by omega) (hq.row.below b1))
  have HQ := Lib.hid hq
  have B1 := Lib.hid b1
  have Q0 := Lib.hid P0
  have Q1 := Lib.hid P1
  obtain ⟨c0, c1, c2⟩ := P0.pdt
  have zs := P1.lt
  clear hq b1 P0 P1 hn
  go_enter Tryz.func114, Tryz.ntmps114
  go_upto_region 1 with fail
  clear hw1
  go_wp2_with fail
  refine CL.out.mono ?_
  rintro e w2 ⟨A, c', rfl, ho, hb⟩
  have zb : w.heap.size + 1 < w2.heap.size := Nat.lt_of_lt_of_le zs hb.size
  have R0 := Lib.hid ((Q0.out.next hb).set A n c')
  have R1 := Lib.hid ((Q1.out.next hb).other w.heap.size 2 (.slice A n c') (by omega))
  have f0 := (Q0.out.next hb).free 2
  have d2 := (Q0.out.next hb).pdt.2.2
  have O2 := Lib.hid (ho.setCell w.heap.size 2 (by omega) (.slice A n c'))
  have B2 := Lib.hid ((B1.out.trans (hb.mono B1.out.size)).setCell (p := ⟨w.heap.size, 2, none⟩) (Nat.le_refl _) (.slice A n c'))
  have Z2 := Lib.hid B1.out.size
  clear hb ho CL c0 c1 c2
  go_upto_region 2 with fail
  generalize w2.setCell ⟨w.heap.size, 2, none⟩ (.slice A n c') = w3 at R0 R1 O2 B2 ⊢
  obtain ⟨c0, c1, c2⟩ := R0.out.pdt
  obtain ⟨e0, e1, e2⟩ := R1.out.pdt
  have f0 := R1.out.free 0
  have f1 := R1.out.free 1
  have f2 := R1.out.free 2
  have z3 := R1.out.lt
  have O3 := Lib.hid (((O2.out.setCell (w.heap.size + 1) 0 (by omega) (.bool x)).setCell (w.heap.size + 1) 1 (by omega) (.int .u8 t)).setCell (w.heap.size + 1) 2 (by omega) (.slice A n c'))
  have B3 := Lib.hid (((B2.out.setCell (p := ⟨w.heap.size + 1, 0, none⟩) (Nat.le_succ _) (.bool x)).setCell (p := ⟨w.heap.size + 1, 1, none⟩) (Nat.le_succ _) (.int .u8 t)).setCell (p := ⟨w.heap.size + 1, 2, none⟩) (Nat.le_succ _) (.slice A n c'))
  have hL := HQ.out.len
  clear O2 B2 R0 d2
  go_wp2_with fail
  refine bodyPost_ret (v := pv x t A n c') (by simp [results, Tryz.results114, go_sem, *]) rfl ⟨⟨x, t, A, n, c', L⟩, rfl, rfl, ⟨O3.out.mono Z2.out, hL, hf, HQ.out.ok⟩, B3.out⟩
/- one's own rows of things of so many cells each -/
theorem row_same {w w' : World} {B : Nat} {ty : TypeId} {sz : Nat} {v : Value} {n : Nat} {cs : List Value} (h : w.ownsRow B ty sz v n cs) (e : ∀ (g : Nat) (cur : Array Value), v.ownBlock = some g → w.heap[g]? = some (.cells cur ty (0, 0)) → w'.heap[g]? = some (.cells cur ty (0, 0))) : w'.ownsRow B ty sz v n cs := by
  refine ⟨h.1, ?_⟩
  rcases h.2 with h0 | ⟨g, cap, cur, hv, hg, hh, r⟩
  · exact .inl h0
  · exact .inr ⟨g, cap, cur, hv, hg, e g cur (by rw [hv]; rfl) hh, r⟩
theorem row_tag {w : World} {B : Nat} {ty : TypeId} {sz : Nat} {v : Value} {n : Nat} {cs : List Value} (h : w.ownsRow B ty sz v n cs) (g : Nat) (hg : v.ownBlock = some g) : ∃ cur, w.heap[g]? = some (.cells cur ty (0, 0)) := by
  rcases h.2 with ⟨rfl, _⟩ | ⟨g', cap, cur, rfl, _, hh, _⟩
  · cases hg
  · injection hg with hg
    exact ⟨cur, hg ▸ hh⟩
def pcl (q : Qu) : List Value := [.bool q.x, .int .u8 q.t, .slice q.a q.n q.c]
def ecl (e : Ed) : List Value := [.int .u8 (e.f : Int), .int .u8 (e.t : Int), .bool e.y, .bool e.g.x, .int .u8 e.g.t, .slice e.g.a e.g.n e.g.c]
theorem pcls_len (D : List Qu) : (D.flatMap pcl).length = D.length * 3 := by
  induction D with
  | nil => rfl
  | cons v D ih => rw [List.flatMap_cons, List.length_append, ih, List.length_cons]; show 3 + _ = _; omega
theorem ecls_len (D : List Ed) : (D.flatMap ecl).length = D.length * 6 := by
  induction D with
  | nil => rfl
  | cons v D ih => rw [List.flatMap_cons, List.length_append, ih, List.length_cons]; show 6 + _ = _; omega
abbrev qzero : Value := .agg #[.bool false, .int .u8 0, .slice none 0 0]
abbrev eOf (e : Ed) : Value := .agg #[.int .u8 (e.f : Int), .int .u8 (e.t : Int), .bool e.y, .bool e.g.x, .int .u8 e.g.t, .slice e.g.a e.g.n e.g.c]
theorem infoPq : ∃ i, Tryz.prog.info? 45 = some i ∧ i.zero = some qzero ∧ i.size = 3 ∧ i.bytes = 32 :=
  ⟨(Tryz.prog.info? 45).get (by kernel_rfl), by kernel_rfl, by kernel_rfl, by kernel_rfl, by kernel_rfl⟩
theorem infoE : ∃ i, Tryz.prog.info? 47 = some i ∧ i.zero = some (eOf ⟨0, 0, false, qz⟩) ∧ i.size = 6 ∧ i.bytes = 40 :=
  ⟨(Tryz.prog.info? 47).get (by kernel_rfl), by kernel_rfl, by kernel_rfl, by kernel_rfl, by kernel_rfl⟩
def OwnQ' (w : World) (B : Nat) (v : Value) (D : List Qu) : Prop := w.ownsRow B 45 3 v D.length (D.flatMap pcl)
def OwnE (w : World) (B : Nat) (v : Value) (D : List Ed) : Prop := w.ownsRow B 47 6 v D.length (D.flatMap ecl)
theorem run_appq (w : World) (B : Nat) (ty : TypeId) (v : Value) (D : List Qu) (ho : OwnQ' w B v D) (g : Nat) (q : Qu) (cc : Nat) (hc : Pdt w g q.x q.t q.a q.n q.c) (hlen : D.length ≤ 1000000) (hB : B ≤ w.heap.size) :
    ∃ A' c' w', (Builtin.append_ #[32, 32] ty #[v, .slice (some ⟨g, 0, none⟩) 1 cc]).run Tryz.prog w = .ok (.slice A' (D.length + 1) c') w' ∧ OwnQ' w' B (.slice A' (D.length + 1) c') (D ++ [q]) ∧ w.grownBy w' v.ownBlock ∧ Below B w w' := by
  obtain ⟨i, hi, hz, hsz, hy⟩ := infoPq
  obtain ⟨v', w', hrun, r2, r3, _, r5⟩ := run_append_own_at (P := Tryz.prog) w B 32 ty 45 i qzero 3 32 Tryz.underlying32 hi hz hsz hy rfl (by omega) v D.length (D.flatMap pcl) ho ⟨g, 0, none⟩ 1 cc (pcl q) rfl
    (fun j u hj => by
      obtain ⟨c0, c1, c2⟩ := hc
      rw [add_plain]
      rcases j with _ | _ | _ | j
      · rw [Nat.add_zero, c0]; exact hj
      · rw [c1]; exact hj
      · rw [c2]; exact hj
      · simp [pcl] at hj)
    (fun u hu => by simp [pcl] at hu; rcases hu with rfl | rfl | rfl <;> rfl) (by unfold maxLen; omega) (by omega) hB
  have hl : (D ++ [q]).length = D.length + 1 := by simp
  have hO : OwnQ' w' B v' (D ++ [q]) := by
    unfold OwnQ'
    rw [hl, List.flatMap_append]
    simpa using r2
  rcases r2.2 with ⟨_, h0⟩ | ⟨g', cap, cur, hv, _⟩
  · omega
  · subst hv
    exact ⟨_, _, w', hrun, hO, r3, (Below.refl _ _).grown r3 hB (fun k hk => (World.ownsRow.lt ho k hk).1)⟩
theorem run_appe (w : World) (B : Nat) (ty : TypeId) (v : Value) (D : List Ed) (ho : OwnE w B v D) (g : Nat) (d : Ed) (cc : Nat) (hc : ∀ j u, (ecl d)[j]? = some u → w.cell? ⟨g, j, none⟩ = some u) (hlen : D.length ≤ 2000000000) (hB : B ≤ w.heap.size) :
    ∃ A' c' w', (Builtin.append_ #[34, 34] ty #[v, .slice (some ⟨g, 0, none⟩) 1 cc]).run Tryz.prog w = .ok (.slice A' (D.length + 1) c') w' ∧ OwnE w' B (.slice A' (D.length + 1) c') (D ++ [d]) ∧ w.grownBy w' v.ownBlock ∧ Below B w w' := by
  obtain ⟨i, hi, hz, hsz, hy⟩ := infoE
  obtain ⟨v', w', hrun, r2, r3, _, r5⟩ := run_append_own_at (P := Tryz.prog) w B 34 ty 47 i (eOf ⟨0, 0, false, qz⟩) 6 40 Tryz.underlying34 hi hz hsz hy rfl (by omega) v D.length (D.flatMap ecl) ho ⟨g, 0, none⟩ 1 cc (ecl d) rfl
    (fun j u hj => by
      rw [add_plain, Nat.zero_add]
      exact hc j u hj)
    (fun u hu => by simp [ecl] at hu; rcases hu with rfl | rfl | rfl | rfl | rfl | rfl <;> rfl) (by unfold maxLen; omega) (by omega) hB
  have hl : (D ++ [d]).length = D.length + 1 := by simp
  have hO : OwnE w' B v' (D ++ [d]) := by
    unfold OwnE
    rw [hl, List.flatMap_append]
    simpa using r2
  rcases r2.2 with ⟨_, h0⟩ | ⟨g', cap, cur, hv, _⟩
  · omega
  · subst hv
    exact ⟨_, _, w', hrun, hO, r3, (Below.refl _ _).grown r3 hB (fun k hk => (World.ownsRow.lt ho k hk).1)⟩
/- all stays but the making's box, and rows of questions and of edges -/
def Fx (o : Obj) : Prop := ∀ cur ty fr, o = .cells cur ty fr → ty ≠ 45 ∧ ty ≠ 47
structure Ka (r : Nat) (w w' : World) : Prop where
  o : Below r w w'
  b : ∀ x o, w.heap[x]? = some o → x ≠ r → Fx o → w'.heap[x]? = some o
theorem Ka.of_below {r : Nat} {w w' : World} (h : Below w.heap.size w w') (hr : r ≤ w.heap.size) : Ka r w w' := ⟨h.mono hr, fun x o hx _ _ => by rw [h.block x (Array.getElem?_eq_some_iff.1 hx).1]; exact hx⟩
theorem Ka.refl (r : Nat) (w : World) : Ka r w w := ⟨Below.refl _ _, fun _ _ h _ _ => h⟩
theorem Ka.trans {r : Nat} {a b c : World} (h : Ka r a b) (k : Ka r b c) : Ka r a c := ⟨h.o.trans k.o, fun x o hx h1 h2 => k.b x o (h.b x o hx h1 h2) h1 h2⟩
theorem Ka.z {r : Nat} {w w' : World} (h : Ka r w w') : w.heap.size ≤ w'.heap.size := h.o.size
theorem Ka.next {r : Nat} {a b c : World} (h : Ka r a b) (k : Below b.heap.size b c) (hr : r ≤ b.heap.size) : Ka r a c := h.trans (Ka.of_below k hr)
theorem Ka.set {r : Nat} {a w : World} (h : Ka r a w) (j : Nat) (v : Value) : Ka r a (w.setCell ⟨r, j, none⟩ v) :=
  h.trans ⟨(Below.refl r w).setCell (p := ⟨r, j, none⟩) (Nat.le_refl _) v, fun x o hx h1 _ => by rw [heap_setCell_other w ⟨r, j, none⟩ x v h1]; exact hx⟩
/- a store into a box of the caller's own, laid since -/
theorem Ka.loc {r : Nat} {a w : World} (h : Ka r a w) (g j : Nat) (v : Value) (hg : a.heap.size ≤ g) (hr : r < g) : Ka r a (w.setCell ⟨g, j, none⟩ v) :=
  ⟨h.o.setCell (p := ⟨g, j, none⟩) (Nat.le_of_lt hr) v, fun x o hx h1 h2 => by
    rw [heap_setCell_other w ⟨g, j, none⟩ x v (by have := (Array.getElem?_eq_some_iff.1 hx).1; show x ≠ g; omega)]
    exact h.b x o hx h1 h2⟩
theorem Ka.app {r : Nat} {a w w' : World} {v : Value} (h : Ka r a w) (hb : Below r w w') (hg : w.grownBy w' v.ownBlock) (ht : ∀ g, v.ownBlock = some g → ∃ cur ty fr, w.heap[g]? = some (.cells cur ty fr) ∧ (ty = 45 ∨ ty = 47)) : Ka r a w' :=
  h.trans ⟨hb, fun x o hx _ h2 => by
    rw [hg.block x (Array.getElem?_eq_some_iff.1 hx).1 (fun e => ?_)]
    · exact hx
    · obtain ⟨cur, ty, fr, hh, ht⟩ := ht x e.symm
      rw [hx] at hh
      injection hh with hh
      obtain ⟨n1, n2⟩ := h2 cur ty fr hh
      rcases ht with rfl | rfl
      · exact n1 rfl
      · exact n2 rfl⟩
/- how far an automaton is made -/
structure Mi (W : World) (r : Nat) (Ap : Option Addr) (kp cp : Nat) (Ae : Option Addr) (ke ce : Nat) (Ps : List Qu) (Es : List Ed) : Prop where
  box : W.heap[r]? = some (.cells #[.slice Ap kp cp, .slice Ae ke ce] 119 (0, 0))
  rp : OwnQ' W (r + 1) (.slice Ap kp cp) Ps
  re : OwnE W (r + 1) (.slice Ae ke ce) Es
  lp : Ps.length = kp
  le : Es.length = ke
  qp : ∀ q ∈ Ps, Qm W (r + 1) q
  qe : ∀ d ∈ Es, Qm W (r + 1) d.g
def Mk (W : World) (r : Nat) (P : List VQ) (E : List EV) : Prop := ∃ Ap kp cp Ae ke ce Ps Es, Mi W r Ap kp cp Ae ke ce Ps Es ∧ Ps.map vq = P ∧ Es.map ve = E
/- what of a world a making hangs on -/
def Tg (o : Obj) : Prop := ∃ cur ty fr, o = .cells cur ty fr ∧ (ty = 119 ∨ ty = 45 ∨ ty = 47 ∨ ty = 171)
theorem qm_same {w w' : World} {B : Nat} {q : Qu} (h : Qm w B q) (e : ∀ (x : Nat) (cur : Array Value), w.heap[x]? = some (.cells cur 171 (0, 0)) → w'.heap[x]? = some (.cells cur 171 (0, 0))) : Qm w' B q :=
  ⟨row_same h.own (fun g cur _ hh => e g cur hh), h.len, h.few, h.ok⟩
theorem Mi.same {W W' : World} {r : Nat} {Ap : Option Addr} {kp cp : Nat} {Ae : Option Addr} {ke ce : Nat} {Ps : List Qu} {Es : List Ed} (h : Mi W r Ap kp cp Ae ke ce Ps Es) (e : ∀ (x : Nat) (o : Obj), W.heap[x]? = some o → Tg o → W'.heap[x]? = some o) : Mi W' r Ap kp cp Ae ke ce Ps Es :=
  ⟨e _ _ h.box ⟨_, _, _, rfl, .inl rfl⟩, row_same h.rp (fun g _ _ hh => e g _ hh ⟨_, _, _, rfl, .inr (.inl rfl)⟩), row_same h.re (fun g _ _ hh => e g _ hh ⟨_, _, _, rfl, .inr (.inr (.inl rfl))⟩), h.lp, h.le,
    fun q hq => qm_same (h.qp q hq) (fun x _ hh => e x _ hh ⟨_, _, _, rfl, .inr (.inr (.inr rfl))⟩), fun d hd => qm_same (h.qe d hd) (fun x _ hh => e x _ hh ⟨_, _, _, rfl, .inr (.inr (.inr rfl))⟩)⟩
theorem Mk.same {W W' : World} {r : Nat} {P : List VQ} {E : List EV} (h : Mk W r P E) (e : ∀ (x : Nat) (o : Obj), W.heap[x]? = some o → Tg o → W'.heap[x]? = some o) : Mk W' r P E := by
  obtain ⟨Ap, kp, cp, Ae, ke, ce, Ps, Es, h1, h2, h3⟩ := h
  exact ⟨Ap, kp, cp, Ae, ke, ce, Ps, Es, h1.same e, h2, h3⟩
theorem Mk.next {W W' : World} {r : Nat} {P : List VQ} {E : List EV} (h : Mk W r P E) (hb : Below W.heap.size W W') : Mk W' r P E := Mk.same h fun x o hx _ => by rw [hb.block x (Array.getElem?_eq_some_iff.1 hx).1]; exact hx
/- a store into a box of another type -/
theorem Mk.other {W : World} {r : Nat} {P : List VQ} {E : List EV} (h : Mk W r P E) (g j : Nat) (v : Value) (o : Obj) (hg : W.heap[g]? = some o) (ht : ¬ Tg o) : Mk (W.setCell ⟨g, j, none⟩ v) r P E := Mk.same h fun x o' hx hT => by
  rw [heap_setCell_other W ⟨g, j, none⟩ x v (fun e => ht (by rw [show x = g from e, hg] at hx; injection hx with hx; rw [hx]; exact hT))]
  exact hx
theorem Mi.lt {W : World} {r : Nat} {Ap : Option Addr} {kp cp : Nat} {Ae : Option Addr} {ke ce : Nat} {Ps : List Qu} {Es : List Ed} (h : Mi W r Ap kp cp Ae ke ce Ps Es) : r < W.heap.size := (Array.getElem?_eq_some_iff.1 h.box).1
theorem Mk.lt {W : World} {r : Nat} {P : List VQ} {E : List EV} (h : Mk W r P E) : r < W.heap.size := by obtain ⟨_, _, _, _, _, _, _, _, h, _⟩ := h; exact h.lt
theorem Mi.cells {W : World} {r : Nat} {Ap : Option Addr} {kp cp : Nat} {Ae : Option Addr} {ke ce : Nat} {Ps : List Qu} {Es : List Ed} (h : Mi W r Ap kp cp Ae ke ce Ps Es) : W.cell? ⟨r, 0, none⟩ = some (.slice Ap kp cp) ∧ W.cell? ⟨r, 1, none⟩ = some (.slice Ae ke ce) ∧ ∀ j, W.frozen? ⟨r, j, none⟩ = false := by
  refine ⟨by rw [cell_of_row W r _ _ _ _ h.box]; rfl, by rw [cell_of_row W r _ _ _ _ h.box]; rfl, fun j => ?_⟩
  have := h.box
  simp [World.frozen?] at this ⊢
  simp [this]
/- a question more -/
theorem Mi.addp {W W' : World} {r : Nat} {Ap : Option Addr} {kp cp : Nat} {Ae : Option Addr} {ke ce : Nat} {Ps : List Qu} {Es : List Ed} (h : Mi W r Ap kp cp Ae ke ce Ps Es) {A' : Option Addr} {k' c' : Nat} {q : Qu} (hq : Qm W (r + 1) q) (ho : OwnQ' W' (r + 1) (.slice A' k' c') (Ps ++ [q])) (hk : Ps.length + 1 = k') (hg : W.grownBy W' (Value.slice Ap kp cp).ownBlock) :
    Mi (W'.setCell ⟨r, 0, none⟩ (.slice A' k' c')) r A' k' c' Ae ke ce (Ps ++ [q]) Es := by
  have hs : ∀ (x : Nat) (o : Obj), W.heap[x]? = some o → (∀ cur ty fr, o = .cells cur ty fr → ty ≠ 45) → x ≠ r → (W'.setCell ⟨r, 0, none⟩ (.slice A' k' c')).heap[x]? = some o := fun x o hx ht hr => by
    rw [heap_setCell_other W' ⟨r, 0, none⟩ x _ hr, hg.block x (Array.getElem?_eq_some_iff.1 hx).1 (fun e => ?_)]
    · exact hx
    · obtain ⟨cur, hh⟩ := row_tag h.rp x e.symm
      rw [hx] at hh
      injection hh with hh
      exact ht _ _ _ hh rfl
  have hrb : W'.heap[r]? = some (.cells #[.slice Ap kp cp, .slice Ae ke ce] 119 (0, 0)) := by
    rw [hg.block r h.lt (fun e => ?_)]
    · exact h.box
    · have := (World.ownsRow.lt h.rp r e.symm).1
      omega
  have tq : ∀ q, Qm W (r + 1) q → Qm (W'.setCell ⟨r, 0, none⟩ (.slice A' k' c')) (r + 1) q := fun q hq => ⟨row_same hq.own (fun g cur ho hh => hs g _ hh (fun _ _ _ e => by injection e with _ e _; rw [← e]; decide) (by have := (World.ownsRow.lt hq.own g ho).1; omega)), hq.len, hq.few, hq.ok⟩
  refine ⟨by rw [heap_setCell_same W' r 0 _ _ _ hrb]; rfl, row_same ho (fun g cur hgo hh => ?_), row_same h.re (fun g cur hgo hh => hs g _ hh (fun _ _ _ e => by injection e with _ e _; rw [← e]; decide) (by have := (World.ownsRow.lt h.re g hgo).1; omega)), by rw [List.length_append]; exact hk, h.le, fun q' hq' => ?_, fun d hd => tq _ (h.qe d hd)⟩
  · rw [heap_setCell_other W' ⟨r, 0, none⟩ g _ (by have := (World.ownsRow.lt ho g hgo).1; show g ≠ r; omega)]; exact hh
  · rcases List.mem_append.1 hq' with hq' | hq'
    · exact tq _ (h.qp q' hq')
    · rw [List.mem_singleton] at hq'; subst hq'; exact tq _ hq
/- an edge more -/
theorem Mi.adde {W W' : World} {r : Nat} {Ap : Option Addr} {kp cp : Nat} {Ae : Option Addr} {ke ce : Nat} {Ps : List Qu} {Es : List Ed} (h : Mi W r Ap kp cp Ae ke ce Ps Es) {A' : Option Addr} {k' c' : Nat} {d : Ed} (hq : Qm W (r + 1) d.g) (ho : OwnE W' (r + 1) (.slice A' k' c') (Es ++ [d])) (hk : Es.length + 1 = k') (hg : W.grownBy W' (Value.slice Ae ke ce).ownBlock) :
    Mi (W'.setCell ⟨r, 1, none⟩ (.slice A' k' c')) r Ap kp cp A' k' c' Ps (Es ++ [d]) := by
  have hs : ∀ (x : Nat) (o : Obj), W.heap[x]? = some o → (∀ cur ty fr, o = .cells cur ty fr → ty ≠ 47) → x ≠ r → (W'.setCell ⟨r, 1, none⟩ (.slice A' k' c')).heap[x]? = some o := fun x o hx ht hr => by
    rw [heap_setCell_other W' ⟨r, 1, none⟩ x _ hr, hg.block x (Array.getElem?_eq_some_iff.1 hx).1 (fun e => ?_)]
    · exact hx
    · obtain ⟨cur, hh⟩ := row_tag h.re x e.symm
      rw [hx] at hh
      injection hh with hh
      exact ht _ _ _ hh rfl
  have hrb : W'.heap[r]? = some (.cells #[.slice Ap kp cp, .slice Ae ke ce] 119 (0, 0)) := by
    rw [hg.block r h.lt (fun e => ?_)]
    · exact h.box
    · have := (World.ownsRow.lt h.re r e.symm).1
      omega
  have tq : ∀ q, Qm W (r + 1) q → Qm (W'.setCell ⟨r, 1, none⟩ (.slice A' k' c')) (r + 1) q := fun q hq => ⟨row_same hq.own (fun g cur ho hh => hs g _ hh (fun _ _ _ e => by injection e with _ e _; rw [← e]; decide) (by have := (World.ownsRow.lt hq.own g ho).1; omega)), hq.len, hq.few, hq.ok⟩
  refine ⟨by rw [heap_setCell_same W' r 1 _ _ _ hrb]; rfl, row_same h.rp (fun g cur hgo hh => hs g _ hh (fun _ _ _ e => by injection e with _ e _; rw [← e]; decide) (by have := (World.ownsRow.lt h.rp g hgo).1; omega)), row_same ho (fun g cur hgo hh => ?_), h.lp, by rw [List.length_append]; exact hk, fun q hq => tq _ (h.qp q hq), fun d' hd' => ?_⟩
  · rw [heap_setCell_other W' ⟨r, 1, none⟩ g _ (by have := (World.ownsRow.lt ho g hgo).1; show g ≠ r; omega)]; exact hh
  · rcases List.mem_append.1 hd' with hd' | hd'
    · exact tq _ (h.qe d' hd')
    · rw [List.mem_singleton] at hd'; subst hd'; exact tq _ hq
end Go.Proofs.YtpnllbojifnopaaGreatDoor
