/- Own: a pattern with lists of its own. -/
import Derived.Test.YtnjndlbhnkhlhaaDoorTrY
import Derived.Deep.DeepCutAuto
namespace Go.Proofs.YtnjndlbhnkhlhaaDoor
open Go Go.RowKit Pk Rl
set_option maxRecDepth 20000

/- a node but for where its tests lie -/
def er (n : Nd) : Nd := ⟨n.k, ⟨n.p.x, n.p.t, none, n.p.n, 0, n.p.L⟩, n.y, ⟨n.g.x, n.g.t, none, n.g.n, 0, n.g.L⟩, n.lo, n.hi, n.s⟩
def setp (n : Nd) (a : Option Addr) (c : Nat) : Nd := ⟨n.k, ⟨n.p.x, n.p.t, a, n.p.n, c, n.p.L⟩, n.y, n.g, n.lo, n.hi, n.s⟩
def setg (n : Nd) (a : Option Addr) (c : Nat) : Nd := ⟨n.k, n.p, n.y, ⟨n.g.x, n.g.t, a, n.g.n, c, n.g.L⟩, n.lo, n.hi, n.s⟩
theorem er_cn {x y : Nd} (h : er x = er y) : cn 10 x = cn 10 y := by
  have : ∀ z, cn 10 z = cn 10 (er z) := fun z => rfl
  rw [this x, h, ← this y]
theorem er_nok {w w' : World} {x y : Nd} (h : er x = er y) (hy : Nok w' y) (hp : Tsts w x.p.a x.p.L) (hg : Tsts w x.g.a x.g.L) : Nok w x := by
  obtain ⟨xk, ⟨xx, xt, xa, xn, xc, xL⟩, xy, ⟨yx, yt, ya, yn, yc, yL⟩, xlo, xhi, xs⟩ := x
  obtain ⟨zk, ⟨zx, zt, za, zn, zc, zL⟩, zy, ⟨ux, ut, ua, un, uc, uL⟩, zlo, zhi, zs⟩ := y
  simp only [er, Nd.mk.injEq, Qu.mk.injEq, true_and] at h
  obtain ⟨rfl, ⟨rfl, rfl, rfl, rfl⟩, rfl, ⟨rfl, rfl, rfl, rfl⟩, rfl, rfl, rfl⟩ := h
  exact ⟨⟨hy.p.len, hy.p.few, hp, hy.p.ok⟩, ⟨hy.g.len, hy.g.few, hg, hy.g.ok⟩, hy.k0, hy.k1, hy.l0, hy.l1, hy.h0, hy.h1, hy.s0, hy.s1⟩
theorem nset_getD (D : List Nd) (i : Nat) (v : Nd) (j : Nat) (hi : i < D.length) : (D.set i v).getD j nz = if j = i then v else D.getD j nz := by
  rw [List.getD_eq_getElem?_getD, List.getElem?_set, List.getD_eq_getElem?_getD]
  by_cases h : j = i
  · subst h; simp [hi]
  · rw [if_neg (fun e => h e.symm), if_neg h]
/- stores at a row's own cells -/
theorem Atn.other {w : World} {b o : Nat} {n : Nd} (h : Atn w b o n) (g o' : Nat) (v : Value) (hne : g ≠ b ∨ o' < o ∨ o + 11 ≤ o') : Atn (w.setCell ⟨g, o', none⟩ v) b o n := by
  have key : ∀ r, r < 11 → (w.setCell ⟨g, o', none⟩ v).cell? ⟨b, o + r, none⟩ = w.cell? ⟨b, o + r, none⟩ := fun r hr => World.cell?_setCell_other _ _ _ _ (by intro e; injection e with e1 e2; omega)
  obtain ⟨h0, h1, h2, h3, h4, h5, h6, h7, h8, h9, h10⟩ := h
  refine ⟨?_, ?_, ?_, ?_, ?_, ?_, ?_, ?_, ?_, ?_, ?_⟩
  · exact (key 0 (by omega)).trans h0
  · exact (key 1 (by omega)).trans h1
  · exact (key 2 (by omega)).trans h2
  · exact (key 3 (by omega)).trans h3
  · exact (key 4 (by omega)).trans h4
  · exact (key 5 (by omega)).trans h5
  · exact (key 6 (by omega)).trans h6
  · exact (key 7 (by omega)).trans h7
  · exact (key 8 (by omega)).trans h8
  · exact (key 9 (by omega)).trans h9
  · exact (key 10 (by omega)).trans h10
theorem Atn.setp {w : World} {b o : Nat} {n : Nd} (h : Atn w b o n) (a : Option Addr) (c : Nat) : Atn (w.setCell ⟨b, o + 3, none⟩ (.slice a n.p.n c)) b o (setp n a c) := by
  have key : ∀ r, r ≠ 3 → (w.setCell ⟨b, o + 3, none⟩ (.slice a n.p.n c)).cell? ⟨b, o + r, none⟩ = w.cell? ⟨b, o + r, none⟩ := fun r hr => World.cell?_setCell_other _ _ _ _ (by intro e; injection e with e1 e2; omega)
  obtain ⟨h0, h1, h2, h3, h4, h5, h6, h7, h8, h9, h10⟩ := h
  refine ⟨?_, ?_, ?_, ?_, ?_, ?_, ?_, ?_, ?_, ?_, ?_⟩
  · exact (key 0 (by omega)).trans h0
  · exact (key 1 (by omega)).trans h1
  · exact (key 2 (by omega)).trans h2
  · exact World.cell?_setCell_same _ _ _ h3
  · exact (key 4 (by omega)).trans h4
  · exact (key 5 (by omega)).trans h5
  · exact (key 6 (by omega)).trans h6
  · exact (key 7 (by omega)).trans h7
  · exact (key 8 (by omega)).trans h8
  · exact (key 9 (by omega)).trans h9
  · exact (key 10 (by omega)).trans h10
theorem Atn.setg {w : World} {b o : Nat} {n : Nd} (h : Atn w b o n) (a : Option Addr) (c : Nat) : Atn (w.setCell ⟨b, o + 7, none⟩ (.slice a n.g.n c)) b o (setg n a c) := by
  have key : ∀ r, r ≠ 7 → (w.setCell ⟨b, o + 7, none⟩ (.slice a n.g.n c)).cell? ⟨b, o + r, none⟩ = w.cell? ⟨b, o + r, none⟩ := fun r hr => World.cell?_setCell_other _ _ _ _ (by intro e; injection e with e1 e2; omega)
  obtain ⟨h0, h1, h2, h3, h4, h5, h6, h7, h8, h9, h10⟩ := h
  refine ⟨?_, ?_, ?_, ?_, ?_, ?_, ?_, ?_, ?_, ?_, ?_⟩
  · exact (key 0 (by omega)).trans h0
  · exact (key 1 (by omega)).trans h1
  · exact (key 2 (by omega)).trans h2
  · exact (key 3 (by omega)).trans h3
  · exact (key 4 (by omega)).trans h4
  · exact (key 5 (by omega)).trans h5
  · exact (key 6 (by omega)).trans h6
  · exact World.cell?_setCell_same _ _ _ h7
  · exact (key 8 (by omega)).trans h8
  · exact (key 9 (by omega)).trans h9
  · exact (key 10 (by omega)).trans h10
/- a question whose tests lie in a block of their own, beside block g -/
structure QW (W : World) (B g : Nat) (q : Qu) : Prop where
  own : OwnT W B (.slice q.a q.n q.c) q.L
  dis : ∀ x, (Value.slice q.a q.n q.c).ownBlock = some x → x ≠ g
theorem QW.below {W W' : World} {B g : Nat} {q : Qu} (h : QW W B g q) (hb : Below W.heap.size W W') : QW W' B g q := ⟨h.own.below hb, h.dis⟩
theorem QW.set {W : World} {B g : Nat} {q : Qu} (h : QW W B g q) (o : Nat) (v : Value) : QW (W.setCell ⟨g, o, none⟩ v) B g q :=
  ⟨h.own.sameB (fun x hx _ => heap_setCell_other W ⟨g, o, none⟩ x v (h.dis x hx)), h.dis⟩
theorem QW.low {W : World} {B g : Nat} {q : Qu} (h : QW W B g q) (g' o : Nat) (hg : g' < B) (v : Value) : QW (W.setCell ⟨g', o, none⟩ v) B g q := ⟨h.own.setCell g' o hg v, h.dis⟩
/- a row of nodes of one's own; the first i have tests of their own -/
structure OwB (W : World) (B g : Nat) (D : List Nd) (i : Nat) : Prop where
  row : Nds W (some ⟨g, 0, none⟩) D
  ge : B ≤ g
  lt : g < W.heap.size
  fr : ∀ j, W.frozen? ⟨g, j, none⟩ = false
  own : ∀ j, j < i → QW W B g (D.getD j nz).p ∧ QW W B g (D.getD j nz).g
theorem OwB.at_ {W : World} {B g : Nat} {D : List Nd} {i : Nat} (h : OwB W B g D i) (j : Nat) (hj : j < D.length) : Atn W g (j * 11) (D.getD j nz) := by
  obtain ⟨b, off, e, h⟩ := h.row j hj
  injection e with e
  injection e with e1 e2
  subst e1 e2
  rwa [Nat.zero_add] at h
theorem OwB.below {W W' : World} {B g : Nat} {D : List Nd} {i : Nat} (h : OwB W B g D i) (hb : Below W.heap.size W W') : OwB W' B g D i :=
  ⟨h.row.below hb, h.ge, Nat.lt_of_lt_of_le h.lt hb.size, fun j => by rw [hb.frozen (p := ⟨g, j, none⟩) h.lt]; exact h.fr j, fun j hj => ⟨(h.own j hj).1.below hb, (h.own j hj).2.below hb⟩⟩
theorem OwB.setp {W : World} {B g : Nat} {D : List Nd} {i : Nat} (h : OwB W B g D i) (hi : i < D.length) (a : Option Addr) (c : Nat) : OwB (W.setCell ⟨g, i * 11 + 3, none⟩ (.slice a (D.getD i nz).p.n c)) B g (D.set i (setp (D.getD i nz) a c)) i := by
  refine ⟨fun j hj => ⟨g, 0, rfl, ?_⟩, h.ge, by rw [World.size_setCell]; exact h.lt, fun j => by rw [World.frozen?_setCell]; exact h.fr j, fun j hj => ?_⟩
  · rw [List.length_set] at hj
    rw [nset_getD D i _ j hi, Nat.zero_add]
    by_cases e : j = i
    · subst e; rw [if_pos rfl]; exact (h.at_ j hj).setp a c
    · rw [if_neg e]; exact (h.at_ j hj).other g _ _ (.inr (by omega))
  · rw [nset_getD D i _ j hi, if_neg (by omega)]
    exact ⟨(h.own j hj).1.set _ _, (h.own j hj).2.set _ _⟩
theorem OwB.setg {W : World} {B g : Nat} {D : List Nd} {i : Nat} (h : OwB W B g D i) (hi : i < D.length) (a : Option Addr) (c : Nat) : OwB (W.setCell ⟨g, i * 11 + 7, none⟩ (.slice a (D.getD i nz).g.n c)) B g (D.set i (setg (D.getD i nz) a c)) i := by
  refine ⟨fun j hj => ⟨g, 0, rfl, ?_⟩, h.ge, by rw [World.size_setCell]; exact h.lt, fun j => by rw [World.frozen?_setCell]; exact h.fr j, fun j hj => ?_⟩
  · rw [List.length_set] at hj
    rw [nset_getD D i _ j hi, Nat.zero_add]
    by_cases e : j = i
    · subst e; rw [if_pos rfl]; exact (h.at_ j hj).setg a c
    · rw [if_neg e]; exact (h.at_ j hj).other g _ _ (.inr (by omega))
  · rw [nset_getD D i _ j hi, if_neg (by omega)]
    exact ⟨(h.own j hj).1.set _ _, (h.own j hj).2.set _ _⟩
theorem OwB.low {W : World} {B g : Nat} {D : List Nd} {i : Nat} (h : OwB W B g D i) (g' o : Nat) (hg : g' < B) (v : Value) : OwB (W.setCell ⟨g', o, none⟩ v) B g D i := by
  have hge := h.ge
  refine ⟨fun j hj => ⟨g, 0, rfl, ?_⟩, h.ge, by rw [World.size_setCell]; exact h.lt, fun j => by rw [World.frozen?_setCell]; exact h.fr j, fun j hj => ⟨(h.own j hj).1.low g' o hg v, (h.own j hj).2.low g' o hg v⟩⟩
  rw [Nat.zero_add]
  exact (h.at_ j hj).other g' o v (.inl (by omega))
theorem OwB.succ {W : World} {B g : Nat} {D : List Nd} {i : Nat} (h : OwB W B g D i) (hp : QW W B g (D.getD i nz).p) (hg : QW W B g (D.getD i nz).g) : OwB W B g D (i + 1) :=
  ⟨h.row, h.ge, h.lt, h.fr, fun j hj => by
    by_cases e : j = i
    · subst e; exact ⟨hp, hg⟩
    · exact h.own j (by omega)⟩
theorem OwB.mono {W : World} {B B' g : Nat} {D : List Nd} {i : Nat} (h : OwB W B g D i) (hB : B' ≤ B) : OwB W B' g D i :=
  ⟨h.row, Nat.le_trans hB h.ge, h.lt, h.fr, fun j hj => ⟨⟨(h.own j hj).1.own.mono hB, (h.own j hj).1.dis⟩, ⟨(h.own j hj).2.own.mono hB, (h.own j hj).2.dis⟩⟩⟩
theorem RowN.owb {W : World} {B : Nat} {v : Value} {D : List Nd} (h : RowN W B v D) (hne : D ≠ []) : ∃ g c, v = .slice (some ⟨g, 0, none⟩) D.length c ∧ D.length ≤ c ∧ OwB W B g D 0 := by
  have hf := h.form
  rcases h.2 with ⟨_, h0⟩ | ⟨g, cap, cur, rfl, hg, hh, hcap, _⟩
  · exact absurd (List.eq_nil_of_length_eq_zero h0) hne
  · obtain ⟨A, c, e, hr, _⟩ := hf
    injection e with e1 e2 e3
    subst e1
    refine ⟨g, cap, rfl, by omega, hr, hg, ?_, fun j => ?_, fun j hj => by omega⟩
    · rcases Nat.lt_or_ge g W.heap.size with h1 | h1
      · exact h1
      · rw [Array.getElem?_eq_none h1] at hh; cases hh
    · simp [World.frozen?, hh]
end Go.Proofs.YtnjndlbhnkhlhaaDoor
