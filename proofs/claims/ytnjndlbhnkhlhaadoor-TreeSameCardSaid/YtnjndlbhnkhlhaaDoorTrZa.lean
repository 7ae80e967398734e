/- TreeSame: its state; what is written into a pattern of one's own. -/
import Derived.Test.YtnjndlbhnkhlhaaDoorTrOx
import Derived.Test.YtnjndlbhnkhlhaaDoorTrU
import Derived.Test.YtnjndlbhnkhlhaaDoorPdK
import Derived.Deep.RegionHeld3
import Derived.Deep.DeepCutAuto
namespace Go.Proofs.YtnjndlbhnkhlhaaDoor
open Go Go.RowKit Pk Rl
set_option maxRecDepth 20000

theorem OwnN.keep {w : World} {B : Nat} {A : Option Addr} {k c : Nat} {D : List Nd} (h : OwnN w B (.slice A k c) D) (hk : D.length = k) (h4 : k ≤ 1000) (F : World) (hF : ∀ r j, B ≤ r → r < w.heap.size → F.cell? ⟨r, j, none⟩ = w.cell? ⟨r, j, none⟩) : Pt F A k c D := by
  have hp := h.pt hk h4
  refine ⟨hk, h4, hp.cap, fun i hi => ?_, fun v hv => ?_⟩
  · obtain ⟨b, off, e, hat⟩ := hp.row i hi
    have hb := hat.lt
    have hB : B ≤ b := (h.lt b (by rw [e]; rfl)).1
    exact ⟨b, off, e, hat.same fun j => hF b j hB hb⟩
  · obtain ⟨q1, q2, r⟩ := h.2 v hv
    exact ⟨⟨q1.len, q1.few, q1.own.keep F hF, q1.ok⟩, ⟨q2.len, q2.few, q2.own.keep F hF, q2.ok⟩, r.k0, r.k1, r.l0, r.l1, r.h0, r.h1, r.s0, r.s1⟩
/- both patterns in their boxes, and what the first one was made of -/
structure SX (w W : World) (g g2 : Nat) (a : Option Addr) (n cc : Nat) (L : List Nd) (win : Int) (A : Option Addr) (k c : Nat) (D : List Nd) (A' : Option Addr) (k' c' : Nat) (E : List Nd) (win' : Int) : Prop where
  x0 : W.cell? ⟨w.heap.size, 0, none⟩ = some (.slice a n cc)
  x1 : W.cell? ⟨w.heap.size, 1, none⟩ = some (.int .u64 win)
  p0 : W.cell? ⟨g, 0, none⟩ = some (.slice A k c)
  p1 : W.cell? ⟨g, 1, none⟩ = some (.int .u64 win)
  q0 : W.cell? ⟨g2, 0, none⟩ = some (.slice A' k' c')
  q1 : W.cell? ⟨g2, 1, none⟩ = some (.int .u64 win')
  pt : Pt W A k c D
  qt : Pt W A' k' c' E
  rn : RN W a L
  tab : Tab W
  bel : Below w.heap.size w W
theorem SX.next {w W W' : World} {g g2 : Nat} {a : Option Addr} {n cc : Nat} {L : List Nd} {win : Int} {A : Option Addr} {k c : Nat} {D : List Nd} {A' : Option Addr} {k' c' : Nat} {E : List Nd} {win' : Int} (h : SX w W g g2 a n cc L win A k c D A' k' c' E win') (hb : Below W.heap.size W W') : SX w W' g g2 a n cc L win A k c D A' k' c' E win' := by
  have key : ∀ p v, W.cell? p = some v → W'.cell? p = some v := fun p v h => (hb.cell (World.block_lt_of_cell? _ _ h)).trans h
  exact ⟨key _ _ h.x0, key _ _ h.x1, key _ _ h.p0, key _ _ h.p1, key _ _ h.q0, key _ _ h.q1, h.pt.below hb, h.qt.below hb, h.rn.below hb, h.tab.below hb, below_go h.bel hb⟩
abbrev Ksx (w W : World) (g g2 : Nat) (a : Option Addr) (n cc : Nat) (L : List Nd) (win : Int) (A : Option Addr) (k c : Nat) (D : List Nd) (A' : Option Addr) (k' c' : Nat) (E : List Nd) (win' : Int) : Prop :=
  W.cell? ⟨w.heap.size, 0, none⟩ = some (.slice a n cc) ∧ W.cell? ⟨w.heap.size, 1, none⟩ = some (.int .u64 win) ∧ W.cell? ⟨g, 0, none⟩ = some (.slice A k c) ∧ W.cell? ⟨g, 1, none⟩ = some (.int .u64 win) ∧ W.cell? ⟨g2, 0, none⟩ = some (.slice A' k' c') ∧ W.cell? ⟨g2, 1, none⟩ = some (.int .u64 win') ∧
  Hid (SX w W g g2 a n cc L win A k c D A' k' c' E win')
theorem ksx_of {w W : World} {g g2 : Nat} {a : Option Addr} {n cc : Nat} {L : List Nd} {win : Int} {A : Option Addr} {k c : Nat} {D : List Nd} {A' : Option Addr} {k' c' : Nat} {E : List Nd} {win' : Int} (h : SX w W g g2 a n cc L win A k c D A' k' c' E win') : Ksx w W g g2 a n cc L win A k c D A' k' c' E win' :=
  ⟨h.x0, h.x1, h.p0, h.p1, h.q0, h.q1, Lib.hid h⟩
theorem ksx_next {w W W' : World} {g g2 : Nat} {a : Option Addr} {n cc : Nat} {L : List Nd} {win : Int} {A : Option Addr} {k c : Nat} {D : List Nd} {A' : Option Addr} {k' c' : Nat} {E : List Nd} {win' : Int} (hb : Below W.heap.size W W') (h : Ksx w W g g2 a n cc L win A k c D A' k' c' E win') : Ksx w W' g g2 a n cc L win A k c D A' k' c' E win' :=
  ksx_of (h.2.2.2.2.2.2.out.next hb)
/- what of a pattern of one's own is written: fields of tests, kinds of nodes -/
structure Wt (W : World) (B g H : Nat) (a : Option Addr) (n : Nat) : Prop where
  at_ : ∀ j, j < n → ∃ tb u, a = some ⟨tb, 0, none⟩ ∧ B ≤ tb ∧ tb < H ∧ tb ≠ g ∧ (∀ r, W.frozen? ⟨tb, r, none⟩ = false) ∧ W.cell? ⟨tb, j * 6, none⟩ = some (.int .u8 u)
structure Wr (W : World) (B g H : Nat) (D : List Nd) : Prop where
  ge : B ≤ g
  lt : g < H
  fr : ∀ r, W.frozen? ⟨g, r, none⟩ = false
  at_ : ∀ i, i < D.length → (∃ u, W.cell? ⟨g, i * 11, none⟩ = some (.int .u8 u)) ∧ W.cell? ⟨g, i * 11 + 3, none⟩ = some (.slice (D.getD i nz).p.a (D.getD i nz).p.n (D.getD i nz).p.c) ∧ W.cell? ⟨g, i * 11 + 7, none⟩ = some (.slice (D.getD i nz).g.a (D.getD i nz).g.n (D.getD i nz).g.c) ∧ Wt W B g H (D.getD i nz).p.a (D.getD i nz).p.n ∧ Wt W B g H (D.getD i nz).g.a (D.getD i nz).g.n
theorem Wt.set {W : World} {B g H : Nat} {a : Option Addr} {n : Nat} (h : Wt W B g H a n) (g' o : Nat) (v : Int) : Wt (W.setCell ⟨g', o, none⟩ (.int .u8 v)) B g H a n := ⟨fun j hj => by
  obtain ⟨tb, u, e, h1, h2, h3, h4, h5⟩ := h.at_ j hj
  by_cases c : (⟨g', o, none⟩ : Addr) = ⟨tb, j * 6, none⟩
  · exact ⟨tb, v, e, h1, h2, h3, fun r => by rw [World.frozen?_setCell]; exact h4 r, by rw [c]; exact World.cell?_setCell_same _ _ _ h5⟩
  · exact ⟨tb, u, e, h1, h2, h3, fun r => by rw [World.frozen?_setCell]; exact h4 r, (World.cell?_setCell_other _ _ _ _ c).trans h5⟩⟩
theorem Wr.set {W : World} {B g H : Nat} {D : List Nd} (h : Wr W B g H D) (g' o : Nat) (v : Int) (hne : g' ≠ g ∨ ∃ i, o = i * 11) : Wr (W.setCell ⟨g', o, none⟩ (.int .u8 v)) B g H D :=
  ⟨h.ge, h.lt, fun r => by rw [World.frozen?_setCell]; exact h.fr r, fun i hi => by
    obtain ⟨⟨u, h1⟩, h2, h3, h4, h5⟩ := h.at_ i hi
    refine ⟨?_, (World.cell?_setCell_other _ _ _ _ (by intro e; injection e with e1 e2; rcases hne with e | ⟨j, e⟩ <;> omega)).trans h2, (World.cell?_setCell_other _ _ _ _ (by intro e; injection e with e1 e2; rcases hne with e | ⟨j, e⟩ <;> omega)).trans h3, h4.set _ _ _, h5.set _ _ _⟩
    by_cases cc : (⟨g', o, none⟩ : Addr) = ⟨g, i * 11, none⟩
    · exact ⟨v, by rw [cc]; exact World.cell?_setCell_same _ _ _ h1⟩
    · exact ⟨u, (World.cell?_setCell_other _ _ _ _ cc).trans h1⟩⟩
theorem QW.wt {W : World} {B g : Nat} {q : Qu} (h : QW W B g q) (hl : q.L.length = q.n) : Wt W B g W.heap.size q.a q.n := ⟨fun j hj => by
  have hv := h.own.vals j (by omega)
  obtain ⟨b, off, e, hat⟩ := hv
  rcases h.own.2 with ⟨h', _⟩ | ⟨x, cap, cur, h', hg, hh, _⟩
  · injection h' with e1 _ _
    rw [e1] at e; cases e
  · injection h' with e1 _ _
    rw [e1] at e
    injection e with e
    injection e with e2 e3
    subst e2 e3
    have hx : x < W.heap.size := by
      rcases Nat.lt_or_ge x W.heap.size with h1 | h1
      · exact h1
      · rw [Array.getElem?_eq_none h1] at hh; cases hh
    have hc := hat.1
    rw [Nat.zero_add] at hc
    exact ⟨x, _, e1, hg, hx, h.dis x (by rw [e1]; rfl), fun r => by simp [World.frozen?, hh], hc⟩⟩
theorem OwB.wr {W : World} {B g : Nat} {D : List Nd} {n : Nat} (h : OwB W B g D n) (hl : D.length = n) (hq : ∀ v ∈ D, v.p.L.length = v.p.n ∧ v.g.L.length = v.g.n) : Wr W B g W.heap.size D :=
  ⟨h.ge, h.lt, h.fr, fun i hi => by
    obtain ⟨c0, c1, c2, c3, c4, c5, c6, c7, _⟩ := h.at_ i hi
    obtain ⟨q1, q3⟩ := hq _ (ngetD_mem D i hi)
    exact ⟨⟨_, c0⟩, c3, c7, (h.own i (by omega)).1.wt q1, (h.own i (by omega)).2.wt q3⟩⟩
theorem Wt.next {W W' : World} {B g H : Nat} {a : Option Addr} {n : Nat} (h : Wt W B g H a n) (hb : Below W.heap.size W W') : Wt W' B g H a n := ⟨fun j hj => by
  obtain ⟨tb, u, e, h1, h2, h3, h4, h5⟩ := h.at_ j hj
  have hlt := World.block_lt_of_cell? _ _ h5
  exact ⟨tb, u, e, h1, h2, h3, fun r => by rw [hb.frozen (p := ⟨tb, r, none⟩) hlt]; exact h4 r, (hb.cell (p := ⟨tb, j * 6, none⟩) hlt).trans h5⟩⟩
theorem Wr.next {W W' : World} {B g H : Nat} {D : List Nd} (h : Wr W B g H D) (hg : g < W.heap.size) (hb : Below W.heap.size W W') : Wr W' B g H D :=
  ⟨h.ge, h.lt, fun r => by rw [hb.frozen (p := ⟨g, r, none⟩) hg]; exact h.fr r, fun i hi => by
    obtain ⟨⟨u, h1⟩, h2, h3, h4, h5⟩ := h.at_ i hi
    exact ⟨⟨u, (hb.cell (p := ⟨g, i * 11, none⟩) hg).trans h1⟩, (hb.cell (p := ⟨g, i * 11 + 3, none⟩) hg).trans h2, (hb.cell (p := ⟨g, i * 11 + 7, none⟩) hg).trans h3, h4.next hb, h5.next hb⟩⟩
/- between two stores -/
structure WS (w3 W : World) (h : Nat) (A : Option Addr) (k c : Nat) (win : Int) (D : List Nd) : Prop where
  bel : Below w3.heap.size w3 W
  box : PtB W h A k c win
  big : w3.heap.size ≤ h
  wr : 0 < k → ∃ g, A = some ⟨g, 0, none⟩ ∧ Wr W w3.heap.size g h D
structure W1 (w3 W : World) (h g : Nat) (k c : Nat) (win : Int) (D : List Nd) : Prop where
  bel : Below w3.heap.size w3 W
  box : PtB W h (some ⟨g, 0, none⟩) k c win
  big : w3.heap.size ≤ h
  wr : Wr W w3.heap.size g h D
theorem W1.ws {w3 W : World} {h g k c : Nat} {win : Int} {D : List Nd} (x : W1 w3 W h g k c win D) : WS w3 W h (some ⟨g, 0, none⟩) k c win D := ⟨x.bel, x.box, x.big, fun _ => ⟨g, rfl, x.wr⟩⟩
theorem W1.setT {w3 W : World} {h g k c : Nat} {win : Int} {D : List Nd} (x : W1 w3 W h g k c win D) (tb o : Nat) (v : Int) (h1 : w3.heap.size ≤ tb) (h2 : tb < h) (h3 : tb ≠ g) : W1 w3 (W.setCell ⟨tb, o, none⟩ (.int .u8 v)) h g k c win D :=
  ⟨x.bel.setCell (by exact h1) _, x.box.other _ _ _ (by omega), x.big, x.wr.set _ _ _ (.inl h3)⟩
theorem W1.setK {w3 W : World} {h g k c : Nat} {win : Int} {D : List Nd} (x : W1 w3 W h g k c win D) (i : Nat) (v : Int) : W1 w3 (W.setCell ⟨g, i * 11, none⟩ (.int .u8 v)) h g k c win D :=
  ⟨x.bel.setCell (by exact x.wr.ge) _, x.box.other _ _ _ (by have := x.wr.lt; omega), x.big, x.wr.set _ _ _ (.inr ⟨i, rfl⟩)⟩
end Go.Proofs.YtnjndlbhnkhlhaaDoor
