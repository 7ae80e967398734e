/- Same: of two nodes; the program's and the document's. -/
import Derived.Test.YtnjndlbhnkhlhaaDoorTrT
import Derived.Test.YtnjndlbhnkhlhaaDoorPdRE
namespace Go.Proofs.YtnjndlbhnkhlhaaDoor
open Go Go.RowKit Pk Rl
set_option maxRecDepth 20000

theorem smt_self (t : TT) : smt t t = true := by
  unfold smt
  have := sm_self t.2.2.1 t.2.2.2.1 t.2.2.2.2.1 t.2.2.2.2.2
  simp only [decide_true, Bool.true_and]
  exact this
theorem psm_self (x : Bool) (t : Int) (L : List TT) : psm x t L x t L = true := by
  unfold psm
  simp only [decide_true, Bool.true_and]
  rw [List.all_eq_true]
  exact fun j _ => smt_self _
def sn (x y : Nd) : Bool := (x.k == y.k) && ((x.s == y.s) && ((x.lo == y.lo) && ((x.hi == y.hi) && ((x.y == y.y) && (psm x.p.x x.p.t x.p.L y.p.x y.p.t y.p.L && psm x.g.x x.g.t x.g.L y.g.x y.g.t y.g.L)))))
theorem cn_inj {x y : Nd} (h : cn 10 x = cn 10 y) (hx : x.p.L.length ≤ 10 ∧ x.g.L.length ≤ 10) (hy : y.p.L.length ≤ 10 ∧ y.g.L.length ≤ 10) :
    x.k = y.k ∧ x.p.x = y.p.x ∧ x.p.t = y.p.t ∧ x.p.L = y.p.L ∧ x.y = y.y ∧ x.g.x = y.g.x ∧ x.g.t = y.g.t ∧ x.g.L = y.g.L ∧ x.lo = y.lo ∧ x.hi = y.hi ∧ x.s = y.s := by
  unfold cn cq at h
  simp only [Prod.mk.injEq] at h
  obtain ⟨a1, ⟨a2, a3, a4⟩, a5, ⟨a6, a7, a8⟩, a9, a10, a11⟩ := h
  rw [List.take_of_length_le hx.1, List.take_of_length_le hy.1] at a4
  rw [List.take_of_length_le hx.2, List.take_of_length_le hy.2] at a8
  exact ⟨a1, a2, a3, a4, a5, a6, a7, a8, a9, a10, a11⟩
theorem sn_cn {x y : Nd} (h : cn 10 x = cn 10 y) (hx : x.p.L.length ≤ 10 ∧ x.g.L.length ≤ 10) (hy : y.p.L.length ≤ 10 ∧ y.g.L.length ≤ 10) : sn x y = true := by
  obtain ⟨a1, a2, a3, a4, a5, a6, a7, a8, a9, a10, a11⟩ := cn_inj h hx hy
  unfold sn
  rw [a1, a2, a3, a4, a5, a6, a7, a8, a9, a10, a11, psm_self, psm_self]
  simp
structure N2x (w W : World) (x y : Nd) : Prop where
  one : Atn W w.heap.size 0 x
  two : Atn W (w.heap.size + 1) 0 y
  bel : Below w.heap.size w W
theorem N2x.next {w W W' : World} {x y : Nd} (h : N2x w W x y) (hb : Below W.heap.size W W') : N2x w W' x y := ⟨h.one.below hb h.one.lt, h.two.below hb h.two.lt, below_go h.bel hb⟩
theorem N2x.start (w : World) (x y : Nd) : N2x w ((w.alloc (nobj x)).alloc (nobj y)) x y := by
  have h1 := (Atn.alloc w x).below (below_alloc _ (nobj y)) (by rw [World.size_alloc]; omega)
  have h2 := Atn.alloc (w.alloc (nobj x)) y
  rw [World.size_alloc] at h2
  exact ⟨h1, h2, below2 w _ _⟩
set_option maxHeartbeats 4000000 in
theorem sameNode_any (x y : Nd) (w : World) (hx : Nok w x) (hy : Nok w y) :
    Calls Tryd.prog 34 #[nOf x, nOf y] w fun e w' => e = .returned (.bool (sn x y)) ∧ Below w.heap.size w w' := by
  have K0 := Lib.hid (N2x.start w x y)
  have BB := Lib.hid (below2 w (nobj x) (nobj y))
  have MP := Lib.hid (fun W (hb : Below w.heap.size w W) => psame_any x.p.x x.p.t x.p.a x.p.n x.p.c x.p.L y.p.x y.p.t y.p.a y.p.n y.p.c y.p.L W hx.p.len hy.p.len (by have := hx.p.few; omega) (hx.p.row.below hb) (hy.p.row.below hb) hx.p.ok hy.p.ok)
  have MG := Lib.hid (fun W (hb : Below w.heap.size w W) => psame_any x.g.x x.g.t x.g.a x.g.n x.g.c x.g.L y.g.x y.g.t y.g.a y.g.n y.g.c y.g.L W hx.g.len hy.g.len (by have := hx.g.few; omega) (hx.g.row.below hb) (hy.g.row.below hb) hx.g.ok hy.g.ok)
  obtain ⟨R, hR⟩ : ∃ R, sn x y = R := ⟨_, rfl⟩
  rw [hR]
  unfold sn at hR
  have HR := Lib.hid hR
  clear hx hy hR
  generalize psm x.p.x x.p.t x.p.L y.p.x y.p.t y.p.L = m1 at MP HR
  generalize psm x.g.x x.g.t x.g.L y.g.x y.g.t y.g.L = m2 at MG HR
  obtain ⟨xk, ⟨xx, xt, xa, xn, xc, xL⟩, xy, ⟨yx, yt, ya, yn, yc, yL⟩, xlo, xhi, xs⟩ := x
  obtain ⟨zk, ⟨zx, zt, za, zn, zc, zL⟩, zy, ⟨ux, ut, ua, un, uc, uL⟩, zlo, zhi, zs⟩ := y
  simp only at MP MG HR
  obtain ⟨bk, hk⟩ : ∃ b, (xk == zk) = b := ⟨_, rfl⟩
  obtain ⟨bs, hs⟩ : ∃ b, (xs == zs) = b := ⟨_, rfl⟩
  obtain ⟨blo, hlo⟩ : ∃ b, (xlo == zlo) = b := ⟨_, rfl⟩
  obtain ⟨bhi, hhi⟩ : ∃ b, (xhi == zhi) = b := ⟨_, rfl⟩
  obtain ⟨bgy, hgy⟩ : ∃ b, (xy == zy) = b := ⟨_, rfl⟩
  rw [hk, hs, hlo, hhi, hgy] at HR
  cases bk
  · have HR1 := HR.out
    simp only [Bool.false_and] at HR1
    subst HR1
    clear HR MP MG
    obtain ⟨⟨q0, q1, q2, q3, q4, q5, q6, q7, q8, q9, q10⟩, ⟨r0, r1, r2, r3, r4, r5, r6, r7, r8, r9, r10⟩, _⟩ := K0.out
    simp only at q0 q1 q2 q3 q4 q5 q6 q7 q8 q9 q10 r0 r1 r2 r3 r4 r5 r6 r7 r8 r9 r10
    go_enter Tryd.func34, Tryd.ntmps34
    go_wp2_with fail
    go_ret
    exact ⟨rfl, BB.out⟩
  cases bs
  · have HR1 := HR.out
    simp only [Bool.false_and, Bool.and_false] at HR1
    subst HR1
    clear HR MP MG
    obtain ⟨⟨q0, q1, q2, q3, q4, q5, q6, q7, q8, q9, q10⟩, ⟨r0, r1, r2, r3, r4, r5, r6, r7, r8, r9, r10⟩, _⟩ := K0.out
    simp only at q0 q1 q2 q3 q4 q5 q6 q7 q8 q9 q10 r0 r1 r2 r3 r4 r5 r6 r7 r8 r9 r10
    go_enter Tryd.func34, Tryd.ntmps34
    go_wp2_with fail
    go_ret
    exact ⟨rfl, BB.out⟩
  cases blo
  · have HR1 := HR.out
    simp only [Bool.false_and, Bool.and_false] at HR1
    subst HR1
    clear HR MP MG
    obtain ⟨⟨q0, q1, q2, q3, q4, q5, q6, q7, q8, q9, q10⟩, ⟨r0, r1, r2, r3, r4, r5, r6, r7, r8, r9, r10⟩, _⟩ := K0.out
    simp only at q0 q1 q2 q3 q4 q5 q6 q7 q8 q9 q10 r0 r1 r2 r3 r4 r5 r6 r7 r8 r9 r10
    go_enter Tryd.func34, Tryd.ntmps34
    go_wp2_with fail
    go_ret
    exact ⟨rfl, BB.out⟩
  cases bhi
  · have HR1 := HR.out
    simp only [Bool.false_and, Bool.and_false] at HR1
    subst HR1
    clear HR MP MG
    obtain ⟨⟨q0, q1, q2, q3, q4, q5, q6, q7, q8, q9, q10⟩, ⟨r0, r1, r2, r3, r4, r5, r6, r7, r8, r9, r10⟩, _⟩ := K0.out
    simp only at q0 q1 q2 q3 q4 q5 q6 q7 q8 q9 q10 r0 r1 r2 r3 r4 r5 r6 r7 r8 r9 r10
    go_enter Tryd.func34, Tryd.ntmps34
    go_wp2_with fail
    go_ret
    exact ⟨rfl, BB.out⟩
  cases bgy
  · have HR1 := HR.out
    simp only [Bool.false_and, Bool.and_false] at HR1
    subst HR1
    clear HR MP MG
    obtain ⟨⟨q0, q1, q2, q3, q4, q5, q6, q7, q8, q9, q10⟩, ⟨r0, r1, r2, r3, r4, r5, r6, r7, r8, r9, r10⟩, _⟩ := K0.out
    simp only at q0 q1 q2 q3 q4 q5 q6 q7 q8 q9 q10 r0 r1 r2 r3 r4 r5 r6 r7 r8 r9 r10
    go_enter Tryd.func34, Tryd.ntmps34
    go_wp2_with fail
    go_ret
    exact ⟨rfl, BB.out⟩
  simp only [Bool.true_and] at HR
  go_enter Tryd.func34, Tryd.ntmps34
  go_wp2_with fail
  refine (MP.out _ BB.out).mono ?_
  rintro e w2 ⟨rfl, hb⟩
  have K2 := Lib.hid (K0.out.next hb)
  have B2 := Lib.hid (below_go BB.out hb)
  clear hb MP K0 BB
  cases m1
  · have HR1 := HR.out
    simp only [Bool.false_and] at HR1
    subst HR1
    clear HR MG
    go_wp2_with fail
    go_ret
    exact ⟨rfl, B2.out⟩
  obtain ⟨⟨q0, q1, q2, q3, q4, q5, q6, q7, q8, q9, q10⟩, ⟨r0, r1, r2, r3, r4, r5, r6, r7, r8, r9, r10⟩, _⟩ := K2.out
  simp only at q0 q1 q2 q3 q4 q5 q6 q7 q8 q9 q10 r0 r1 r2 r3 r4 r5 r6 r7 r8 r9 r10
  simp only [Bool.true_and] at HR
  have HR1 := HR.out
  subst HR1
  go_wp2_with fail
  refine (MG.out _ B2.out).mono ?_
  rintro e w3 ⟨rfl, hb⟩
  have B3 := Lib.hid (below_go B2.out hb)
  clear hb MG K2 B2 q0 q1 q2 q3 q4 q5 q6 q7 q8 q9 q10 r0 r1 r2 r3 r4 r5 r6 r7 r8 r9 r10
  go_wp2_with fail
  go_ret
  exact ⟨rfl, B3.out⟩
set_option maxHeartbeats 4000000 in
theorem rsameNode_any (x y : Nd) (w : World) (hx : Nok w x) (hy : Nok w y) :
    Calls Tryd.prog 44 #[nOf x, nOf y] w fun e w' => e = .returned (.bool (sn x y)) ∧ Below w.heap.size w w' := by
  have K0 := Lib.hid (N2x.start w x y)
  have BB := Lib.hid (below2 w (nobj x) (nobj y))
  have MP := Lib.hid (fun W (hb : Below w.heap.size w W) => rpsame_any x.p.x x.p.t x.p.a x.p.n x.p.c x.p.L y.p.x y.p.t y.p.a y.p.n y.p.c y.p.L W hx.p.len hy.p.len (by have := hx.p.few; omega) (hx.p.row.below hb) (hy.p.row.below hb) hx.p.ok hy.p.ok)
  have MG := Lib.hid (fun W (hb : Below w.heap.size w W) => rpsame_any x.g.x x.g.t x.g.a x.g.n x.g.c x.g.L y.g.x y.g.t y.g.a y.g.n y.g.c y.g.L W hx.g.len hy.g.len (by have := hx.g.few; omega) (hx.g.row.below hb) (hy.g.row.below hb) hx.g.ok hy.g.ok)
  obtain ⟨R, hR⟩ : ∃ R, sn x y = R := ⟨_, rfl⟩
  rw [hR]
  unfold sn at hR
  have HR := Lib.hid hR
  clear hx hy hR
  generalize psm x.p.x x.p.t x.p.L y.p.x y.p.t y.p.L = m1 at MP HR
  generalize psm x.g.x x.g.t x.g.L y.g.x y.g.t y.g.L = m2 at MG HR
  obtain ⟨xk, ⟨xx, xt, xa, xn, xc, xL⟩, xy, ⟨yx, yt, ya, yn, yc, yL⟩, xlo, xhi, xs⟩ := x
  obtain ⟨zk, ⟨zx, zt, za, zn, zc, zL⟩, zy, ⟨ux, ut, ua, un, uc, uL⟩, zlo, zhi, zs⟩ := y
  simp only at MP MG HR
  obtain ⟨bk, hk⟩ : ∃ b, (xk == zk) = b := ⟨_, rfl⟩
  obtain ⟨bs, hs⟩ : ∃ b, (xs == zs) = b := ⟨_, rfl⟩
  obtain ⟨blo, hlo⟩ : ∃ b, (xlo == zlo) = b := ⟨_, rfl⟩
  obtain ⟨bhi, hhi⟩ : ∃ b, (xhi == zhi) = b := ⟨_, rfl⟩
  obtain ⟨bgy, hgy⟩ : ∃ b, (xy == zy) = b := ⟨_, rfl⟩
  rw [hk, hs, hlo, hhi, hgy] at HR
  cases bk
  · have HR1 := HR.out
    simp only [Bool.false_and] at HR1
    subst HR1
    clear HR MP MG
    obtain ⟨⟨q0, q1, q2, q3, q4, q5, q6, q7, q8, q9, q10⟩, ⟨r0, r1, r2, r3, r4, r5, r6, r7, r8, r9, r10⟩, _⟩ := K0.out
    simp only at q0 q1 q2 q3 q4 q5 q6 q7 q8 q9 q10 r0 r1 r2 r3 r4 r5 r6 r7 r8 r9 r10
    go_enter Tryd.func44, Tryd.ntmps44
    go_wp2_with fail
    go_ret
    exact ⟨rfl, BB.out⟩
  cases bgy
  · have HR1 := HR.out
    simp only [Bool.false_and, Bool.and_false] at HR1
    subst HR1
    clear HR MP MG
    obtain ⟨⟨q0, q1, q2, q3, q4, q5, q6, q7, q8, q9, q10⟩, ⟨r0, r1, r2, r3, r4, r5, r6, r7, r8, r9, r10⟩, _⟩ := K0.out
    simp only at q0 q1 q2 q3 q4 q5 q6 q7 q8 q9 q10 r0 r1 r2 r3 r4 r5 r6 r7 r8 r9 r10
    go_enter Tryd.func44, Tryd.ntmps44
    go_wp2_with fail
    go_ret
    exact ⟨rfl, BB.out⟩
  cases blo
  · have HR1 := HR.out
    simp only [Bool.false_and, Bool.and_false] at HR1
    subst HR1
    clear HR MP MG
    obtain ⟨⟨q0, q1, q2, q3, q4, q5, q6, q7, q8, q9, q10⟩, ⟨r0, r1, r2, r3, r4, r5, r6, r7, r8, r9, r10⟩, _⟩ := K0.out
    simp only at q0 q1 q2 q3 q4 q5 q6 q7 q8 q9 q10 r0 r1 r2 r3 r4 r5 r6 r7 r8 r9 r10
    go_enter Tryd.func44, Tryd.ntmps44
    go_wp2_with fail
    go_ret
    exact ⟨rfl, BB.out⟩
  cases bhi
  · have HR1 := HR.out
    simp only [Bool.false_and, Bool.and_false] at HR1
    subst HR1
    clear HR MP MG
    obtain ⟨⟨q0, q1, q2, q3, q4, q5, q6, q7, q8, q9, q10⟩, ⟨r0, r1, r2, r3, r4, r5, r6, r7, r8, r9, r10⟩, _⟩ := K0.out
    simp only at q0 q1 q2 q3 q4 q5 q6 q7 q8 q9 q10 r0 r1 r2 r3 r4 r5 r6 r7 r8 r9 r10
    go_enter Tryd.func44, Tryd.ntmps44
    go_wp2_with fail
    go_ret
    exact ⟨rfl, BB.out⟩
  cases bs
  · have HR1 := HR.out
    simp only [Bool.false_and, Bool.and_false] at HR1
    subst HR1
    clear HR MP MG
    obtain ⟨⟨q0, q1, q2, q3, q4, q5, q6, q7, q8, q9, q10⟩, ⟨r0, r1, r2, r3, r4, r5, r6, r7, r8, r9, r10⟩, _⟩ := K0.out
    simp only at q0 q1 q2 q3 q4 q5 q6 q7 q8 q9 q10 r0 r1 r2 r3 r4 r5 r6 r7 r8 r9 r10
    go_enter Tryd.func44, Tryd.ntmps44
    go_wp2_with fail
    go_ret
    exact ⟨rfl, BB.out⟩
  simp only [Bool.true_and] at HR
  go_enter Tryd.func44, Tryd.ntmps44
  go_wp2_with fail
  refine (MP.out _ BB.out).mono ?_
  rintro e w2 ⟨rfl, hb⟩
  have K2 := Lib.hid (K0.out.next hb)
  have B2 := Lib.hid (below_go BB.out hb)
  clear hb MP K0 BB
  cases m1
  · have HR1 := HR.out
    simp only [Bool.false_and] at HR1
    subst HR1
    clear HR MG
    go_wp2_with fail
    go_ret
    exact ⟨rfl, B2.out⟩
  obtain ⟨⟨q0, q1, q2, q3, q4, q5, q6, q7, q8, q9, q10⟩, ⟨r0, r1, r2, r3, r4, r5, r6, r7, r8, r9, r10⟩, _⟩ := K2.out
  simp only at q0 q1 q2 q3 q4 q5 q6 q7 q8 q9 q10 r0 r1 r2 r3 r4 r5 r6 r7 r8 r9 r10
  simp only [Bool.true_and] at HR
  have HR1 := HR.out
  subst HR1
  go_wp2_with fail
  refine (MG.out _ B2.out).mono ?_
  rintro e w3 ⟨rfl, hb⟩
  have B3 := Lib.hid (below_go B2.out hb)
  clear hb MG K2 B2 q0 q1 q2 q3 q4 q5 q6 q7 q8 q9 q10 r0 r1 r2 r3 r4 r5 r6 r7 r8 r9 r10
  go_wp2_with fail
  go_ret
  exact ⟨rfl, B3.out⟩
end Go.Proofs.YtnjndlbhnkhlhaaDoor
