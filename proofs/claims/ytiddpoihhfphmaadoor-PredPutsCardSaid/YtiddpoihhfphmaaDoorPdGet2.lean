/- What was put is got: pred.Get whole. -/
import Derived.Test.YtiddpoihhfphmaaDoorPdGet
namespace Go.Proofs.YtiddpoihhfphmaaDoor
open Go Go.RowKit Pk Rl
set_option maxRecDepth 20000

structure GrowP (w W : World) (r g B : Nat) (x : Bool) (t : Int) (A : Option Addr) (k c : Nat) (L : List TT) : Prop where
  res : Pdb W r false 0 none 0 0
  loc : Pdb W g x t A k c
  own : OwnT W B (.slice A k c) L
  bel : Below w.heap.size w W
  hr : r < B
  hg : g < B
  hrg : r ≠ g
  wr : w.heap.size ≤ r
  wg : w.heap.size ≤ g
  wB : w.heap.size ≤ B
  big : B ≤ W.heap.size
theorem GrowP.next {w W W' : World} {r g B : Nat} {x : Bool} {t : Int} {A : Option Addr} {k c : Nat} {L : List TT} (h : GrowP w W r g B x t A k c L) (hb : Below W.heap.size W W') : GrowP w W' r g B x t A k c L :=
  ⟨h.res.next hb, h.loc.next hb, h.own.below hb, below_go h.bel hb, h.hr, h.hg, h.hrg, h.wr, h.wg, h.wB, Nat.le_trans h.big hb.size⟩
theorem GrowP.step {w W W' : World} {r g B : Nat} {x : Bool} {t : Int} {A : Option Addr} {k c : Nat} {L : List TT} (h : GrowP w W r g B x t A k c L) {A' : Option Addr} {k' c' : Nat} {L' : List TT} (ho : OwnT W' B (.slice A' k' c') L') (hb : Below B W W') :
    GrowP w (W'.setCell ⟨g, 2, none⟩ (.slice A' k' c')) r g B x t A' k' c' L' :=
  ⟨(h.res.below hb h.hr).other _ _ _ h.hrg, (h.loc.below hb h.hg).set _ _ _, ho.setCell _ _ h.hg _, (h.bel.trans (hb.mono h.wB)).setCell h.wg _, h.hr, h.hg, h.hrg, h.wr, h.wg, h.wB, by rw [World.size_setCell]; exact Nat.le_trans h.big hb.size⟩
/- what is stored into the result -/
theorem GrowP.done {w W : World} {r g B : Nat} {x : Bool} {t : Int} {A : Option Addr} {k c : Nat} {L : List TT} (h : GrowP w W r g B x t A k c L) (u y z : Value) :
    OwnT (((W.setCell ⟨r, 0, none⟩ u).setCell ⟨r, 1, none⟩ y).setCell ⟨r, 2, none⟩ z) w.heap.size (.slice A k c) L ∧ Below w.heap.size w (((W.setCell ⟨r, 0, none⟩ u).setCell ⟨r, 1, none⟩ y).setCell ⟨r, 2, none⟩ z) :=
  ⟨(((h.own.setCell r 0 h.hr u).setCell r 1 h.hr y).setCell r 2 h.hr z).mono h.wB, ((h.bel.setCell (p := ⟨r, 0, none⟩) h.wr u).setCell (p := ⟨r, 1, none⟩) h.wr y).setCell (p := ⟨r, 2, none⟩) h.wr z⟩
theorem nt_ok {t : TT} (h : Okt t) : Okt (nt t) := ⟨h.f0, h.f1, h.o0, h.o1, ⟨h.v.k0, h.v.k1, h.v.n0, h.v.n1, bt_lt _ h.v.re⟩⟩
theorem nt_rgt (t : TT) : rgt (nt t) = rgt t := by
  have e : mayv (nt t).2.2 = mayv t.2.2 := by
    have := bt_zero t.2.2.2.2.1
    unfold mayv may
    show mayB _ _ (decide (bt t.2.2.2.2.1 = 0)) _ _ = _
    have e2 : decide (bt t.2.2.2.2.1 = 0) = decide (t.2.2.2.2.1 = 0) := by
      rw [← this, Bool.eq_iff_iff]; simp
    rw [e2]
  unfold rgt
  rw [e]
theorem pmay_nt (x : Bool) (t : Int) (L : List TT) : pmay x t (L.map nt) = pmay x t L := by
  unfold pmay
  rw [List.length_map, List.all_map]
  congr 1
  congr 1
  funext v
  exact nt_rgt v
theorem wpd_split (x : Bool) (t : Int) (L : List TT) (l : List Int) (j : Nat) (h : j < L.length) : l ++ wpd x t L = (l ++ fr0 x t L.length ++ wts (L.take j)) ++ (wt (L.getD j tz) ++ wts (L.drop (j + 1))) := by
  have : wts L = wts (L.take j) ++ (wt (L.getD j tz) ++ wts (L.drop (j + 1))) := by
    unfold wts
    conv => lhs; rw [← List.take_append_drop j L, List.flatMap_append, tdrop_cons L j h, List.flatMap_cons]
  rw [wpd, this]
  simp
theorem pmay_any0 {x : Bool} {t : Int} {L : List TT} (h : pmay x t L = true) : x = true → t = 0 := by
  intro hx
  subst hx
  unfold pmay at h
  simp only [Bool.and_eq_true, Bool.true_and, Bool.not_eq_true', decide_eq_false_iff_not, Decidable.not_not] at h
  exact h.1.2
end Go.Proofs.YtiddpoihhfphmaaDoor
