/- Contracts, joined: TrT, TrW, TrX, TrY. -/
import Derived.Test.YtpnllbojifnopaaGreatDoorZMT
import Derived.Test.YtpnllbojifnopaaGreatDoorZPRE
namespace Go.Proofs.YtpnllbojifnopaaGreatDoor
open Go Go.RowKit Pk Rl
set_option maxRecDepth 20000
abbrev one (t : Int) : Nd := ⟨1, ⟨false, t, none, 0, 0, []⟩, false, qz, 0, 0, 0⟩
abbrev two : List Nd := [⟨2, qz, false, qz, 0, 0, 2⟩, one 1, one 2]
abbrev rep : Nd := ⟨4, qz, false, qz, 2, 3, 3⟩
theorem frn_one (t : Int) (r : List Nd) : frn (one t :: r) = [one t] := by
  rw [frn_cons, if_neg (by simp)]; simp
theorem pts_one (t : Int) : pts [one t] = [] := by unfold pts; rw [frn_one, List.tail_cons, spl_nil]; rfl
theorem ofp_one (F : List Nd → Bool) (t : Int) : ofp F [one t] = true := by unfold ofp; rw [frn_one]; simp only [spl_nil]; rfl
theorem frn_two : frn two = two := by
  rw [frn_cons, if_neg (by simp)]; rfl
theorem spl_two : spl [one 1, one 2] = some [[one 1], [one 2]] := by
  rw [spl_cons _ (by simp), frn_one, if_neg (by simp)]
  show (spl [one 2]).map _ = _
  rw [spl_cons _ (by simp), frn_one, if_neg (by simp)]
  show ((spl []).map _).map _ = _
  rw [spl_nil]; rfl
theorem pts_two : pts two = [[one 1], [one 2]] := by unfold pts; rw [frn_two]; show (spl [one 1, one 2]).getD [] = _; rw [spl_two]; rfl
theorem ofp_two (F : List Nd → Bool) : ofp F two = (F [one 1] && (F [one 2] && true)) := by
  rw [ofp_cons (by rw [frn_two]; simp), frn_two]
  show (match spl [one 1, one 2] with | none => false | some ps => ps.all F) = _
  rw [spl_two]; rfl
theorem fmd_one (k : Nat) (t : Int) : fmd (k + 1) [one t] = true := by
  show (ofp (fmd k) [one t] && kd (one t) (pts [one t]).length) = true
  rw [ofp_one, pts_one]; rfl
theorem fmd_two (k : Nat) : fmd (k + 2) two = true := by
  show (ofp (fmd (k + 1)) two && kd _ (pts two).length) = true
  rw [ofp_two, pts_two, fmd_one, fmd_one]; rfl
theorem dpt_one (k : Nat) (t : Int) : dpt (k + 1) [one t] = 0 := by rw [dpt, pts_one]; rfl
theorem dpt_two (k : Nat) : dpt (k + 2) two = 1 := by
  rw [dpt, pts_two]
  simp only [List.foldl_cons, List.foldl_nil, dpt_one]; rfl
theorem plc_one (k : Nat) (t : Int) : plc (k + 1) [one t] = 1 := by
  rw [plc]; exact if_pos rfl
theorem plc_two (k : Nat) : plc (k + 2) two = 2 := by
  rw [plc, pts_two]
  simp only [List.foldl_cons, List.foldl_nil, plc_one]
  show (if (2 : Int) = 1 then (1 : Int) else if (2 : Int) = 4 then _ else wrap64 (wrap64 (0 + 1) + 1)) = 2
  rw [if_neg (by decide), if_neg (by decide)]
  unfold wrap64; rfl
theorem mp_two0 : mp two 10 = 0 := by
  unfold mp
  rw [if_neg (by decide), if_neg (by rw [frn_two, fmd_two 31]; simp), if_neg (by decide), dpt_two 31, plc_two 31]; decide
def Bare (q : Qu) : Prop := q.a = none ∧ q.n = 0 ∧ q.c = 0 ∧ q.L = []
theorem QB.bare {w : World} {B : Nat} {v : Value} {q : Qu} (h : Bare q) : QB w B v q := by
  obtain ⟨x, t, a, n, c, L⟩ := q
  obtain ⟨rfl, rfl, rfl, rfl⟩ := h
  exact ⟨OwnT.nil _ _, rfl, by simp, by simp, fun g hg => by cases hg⟩
theorem Qok.bare {w : World} {q : Qu} (h : Bare q) : Qok w q := by
  obtain ⟨x, t, a, n, c, L⟩ := q
  obtain ⟨rfl, rfl, rfl, rfl⟩ := h
  exact ⟨rfl, by simp, Tsts.nil _ _, by simp⟩
def Pln (D : List Nd) : Prop := ∀ v ∈ D, Bare v.p ∧ Bare v.g ∧ Rg v
theorem Pln.pt {w : World} {A : Option Addr} {n c : Nat} {D : List Nd} (h : Pln D) (hl : D.length = n) (hn : n ≤ 1000) (hc : n ≤ c) (hr : Nds w A D) : Pt w A n c D :=
  ⟨hl, hn, hc, hr, fun v hv => by obtain ⟨q1, q2, r⟩ := h v hv; exact ⟨Qok.bare q1, Qok.bare q2, r.k0, r.k1, r.l0, r.l1, r.h0, r.h1, r.s0, r.s1⟩⟩
theorem pln_one (t : Int) : Bare (one t).p ∧ Bare (one t).g ∧ Rg (one t) := ⟨⟨rfl, rfl, rfl, rfl⟩, ⟨rfl, rfl, rfl, rfl⟩, by simp, by simp, by simp, by simp, by simp, by simp, by simp, by simp⟩
theorem pln_two : Pln two := by
  intro v hv
  simp only [two, List.mem_cons, List.not_mem_nil, or_false] at hv
  rcases hv with rfl | rfl | rfl
  · exact ⟨⟨rfl, rfl, rfl, rfl⟩, ⟨rfl, rfl, rfl, rfl⟩, by decide, by decide, by decide, by decide, by decide, by decide, by decide, by decide⟩
  · exact pln_one 1
  · exact pln_one 2
structure FX (w W : World) (g1 g2 : Nat) (A A1 : Option Addr) (c1 : Nat) : Prop where
  p : PtB W g1 A 3 3 10
  q : PtB W g2 A1 4 c1 1
  n : Nds W A two
  m : Nds W A1 (rep :: two)
  b : Below w.heap.size w W
theorem FX.next {w W W' : World} {g1 g2 : Nat} {A A1 : Option Addr} {c1 : Nat} (h : FX w W g1 g2 A A1 c1) (hb : Below W.heap.size W W') : FX w W' g1 g2 A A1 c1 :=
  ⟨h.p.next hb, h.q.next hb, h.n.below hb, h.m.below hb, below_go h.b hb⟩
theorem Nds.belowB {B : Nat} {w w' : World} {b off : Nat} {L : List Nd} (h : Nds w (some ⟨b, off, none⟩) L) (hb : Below B w w') (hB : b < B) : Nds w' (some ⟨b, off, none⟩) L := fun i hi => by
  obtain ⟨b', off', e, h⟩ := h i hi
  injection e with e
  injection e with e1 e2
  subst e1 e2
  exact ⟨b, off, rfl, h.below hb hB⟩
end Go.Proofs.YtpnllbojifnopaaGreatDoor
namespace Go.Proofs.YtpnllbojifnopaaGreatDoor
open Go Go.RowKit Pk Rl
set_option maxRecDepth 20000
def sn (x y : Nd) : Bool := (x.k == y.k) && ((x.s == y.s) && ((x.lo == y.lo) && ((x.hi == y.hi) && ((x.y == y.y) && (psm x.p.x x.p.t x.p.L y.p.x y.p.t y.p.L && psm x.g.x x.g.t x.g.L y.g.x y.g.t y.g.L)))))
end Go.Proofs.YtpnllbojifnopaaGreatDoor
namespace Go.Proofs.YtpnllbojifnopaaGreatDoor
open Go Go.RowKit Pk Rl
set_option maxRecDepth 20000
end Go.Proofs.YtpnllbojifnopaaGreatDoor
namespace Go.Proofs.YtpnllbojifnopaaGreatDoor
open Go Go.RowKit Pk Rl
set_option maxRecDepth 20000
end Go.Proofs.YtpnllbojifnopaaGreatDoor
