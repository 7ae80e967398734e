/- Two patterns' boxes and a row of events of one's own. -/
import Derived.Test.YtccjflioaajgiaaGreatDoorDnAo
namespace Go.Proofs.YtccjflioaajgiaaGreatDoor
open Go Go.RowKit Go.Maps Pk Rl
set_option maxRecDepth 100000

theorem tail_of (w : World) (a : Option Addr) (n c : Nat) (win : Int) (b : Option Addr) (m d : Nat) (win' : Int) :
    (((w.alloc (xpobj a n c win)).alloc (xpobj b m d win')).cell? ⟨w.heap.size, 0, none⟩ = some (.slice a n c) ∧ ((w.alloc (xpobj a n c win)).alloc (xpobj b m d win')).cell? ⟨w.heap.size, 1, none⟩ = some (.int .u64 win)) ∧
    (((w.alloc (xpobj a n c win)).alloc (xpobj b m d win')).cell? ⟨w.heap.size + 1, 0, none⟩ = some (.slice b m d) ∧ ((w.alloc (xpobj a n c win)).alloc (xpobj b m d win')).cell? ⟨w.heap.size + 1, 1, none⟩ = some (.int .u64 win')) ∧
    ((w.alloc (xpobj a n c win)).alloc (xpobj b m d win')).heap.size = w.heap.size + 1 + 1 := by
  refine ⟨⟨?_, ?_⟩, ⟨?_, ?_⟩, ?_⟩ <;> simp [go_sem]
structure AX (w W : World) (g g2 : Nat) (A : Option Addr) (k c : Nat) (wn : Nat) (D : List Nd) (A' : Option Addr) (k' c' : Nat) (wm : Nat) (E : List Nd) (rA : Option Addr) (rc : Nat) (R : List Lg) : Prop where
  p : PtB W g A k c (wn : Int)
  q : PtB W g2 A' k' c' (wm : Int)
  d : ∃ B, OwnN W B (.slice A k c) D
  e : ∃ B, OwnN W B (.slice A' k' c') E
  r : ∃ B, OwnLg W B (.slice rA R.length rc) R
  bel : Below w.heap.size w W
  ne : g ≠ g2
  b2 : w.heap.size ≤ g2
theorem exN {w w' : World} {v : Value} {D : List Nd} (h : ∃ B, OwnN w B v D) (hb : Below w.heap.size w w') : ∃ B, OwnN w' B v D := ⟨_, h.choose_spec.below hb⟩
theorem exG {w w' : World} {v : Value} {R : List Lg} (h : ∃ B, OwnLg w B v R) (hb : Below w.heap.size w w') : ∃ B, OwnLg w' B v R := ⟨_, h.choose_spec.below hb⟩
theorem exNs {w : World} {v : Value} {D : List Nd} (h : ∃ B, OwnN w B v D) {g : Nat} {a : Option Addr} {m c : Nat} {win : Int} (hp : PtB w g a m c win) (j : Nat) (x : Value) : ∃ B, OwnN (w.setCell ⟨g, j, none⟩ x) B v D := ⟨_, h.choose_spec.setP hp j x⟩
theorem exGs {w : World} {v : Value} {R : List Lg} (h : ∃ B, OwnLg w B v R) {g : Nat} {a : Option Addr} {m c : Nat} {win : Int} (hp : PtB w g a m c win) (j : Nat) (x : Value) : ∃ B, OwnLg (w.setCell ⟨g, j, none⟩ x) B v R := ⟨_, h.choose_spec.setP hp j x⟩
theorem axA {w wz : World} {A : Option Addr} {k c : Nat} {wn : Nat} {D : List Nd} {A' : Option Addr} {k' c' : Nat} {wm : Nat} {E : List Nd} {rA : Option Addr} {rc : Nat} {R : List Lg} (hd : ∃ B, OwnN wz B (.slice A k c) D) (he : ∃ B, OwnN wz B (.slice A' k' c') E) (hr : ∃ B, OwnLg wz B (.slice rA R.length rc) R) (hb : Below w.heap.size w wz) : AX w ((wz.alloc (ptobj A k c (wn : Int))).alloc (ptobj A' k' c' (wm : Int))) wz.heap.size (wz.heap.size + 1) A k c wn D A' k' c' wm E rA rc R :=
  ⟨(PtB.alloc wz _ _ _ _).next (bal _ _), PtB.alloc' (by simp), exN (exN hd (bal _ _)) (bal _ _), exN (exN he (bal _ _)) (bal _ _), exG (exG hr (bal _ _)) (bal _ _), below_go (below_go hb (bal _ _)) (bal _ _), by omega, by have := hb.size; omega⟩
theorem axA2 {w wz : World} {A : Option Addr} {k c : Nat} {wn : Nat} {D : List Nd} {A' : Option Addr} {k' c' : Nat} {wm : Nat} {E : List Nd} {rA : Option Addr} {rc : Nat} {R : List Lg} (hd : ∃ B, OwnN wz B (.slice A k c) D) (he : ∃ B, OwnN wz B (.slice A' k' c') E) (hr : ∃ B, OwnLg wz B (.slice rA R.length rc) R) (hb : Below w.heap.size w wz) : AX w ((wz.alloc (ptobj A' k' c' (wm : Int))).alloc (ptobj A k c (wn : Int))) (wz.heap.size + 1) wz.heap.size A k c wn D A' k' c' wm E rA rc R :=
  ⟨PtB.alloc' (by simp), (PtB.alloc wz _ _ _ _).next (bal _ _), exN (exN hd (bal _ _)) (bal _ _), exN (exN he (bal _ _)) (bal _ _), exG (exG hr (bal _ _)) (bal _ _), below_go (below_go hb (bal _ _)) (bal _ _), by omega, by have := hb.size; omega⟩
theorem fill {w wz : World} {g : Nat} (hg : w.heap.size ≤ g) (hp : PtB wz g none 0 0 0) (hb : Below w.heap.size w wz) (A : Option Addr) (k c : Nat) (win : Int) : PtB ((wz.setCell ⟨g, 0, none⟩ (.slice A k c)).setCell ⟨g, 1, none⟩ (.int .u64 win)) g A k c win ∧ Below w.heap.size w ((wz.setCell ⟨g, 0, none⟩ (.slice A k c)).setCell ⟨g, 1, none⟩ (.int .u64 win)) ∧ ((wz.setCell ⟨g, 0, none⟩ (.slice A k c)).setCell ⟨g, 1, none⟩ (.int .u64 win)).heap.size = wz.heap.size ∧
    (∀ v D, (∃ B, OwnN wz B v D) → ∃ B, OwnN ((wz.setCell ⟨g, 0, none⟩ (.slice A k c)).setCell ⟨g, 1, none⟩ (.int .u64 win)) B v D) ∧ (∀ v R, (∃ B, OwnLg wz B v R) → ∃ B, OwnLg ((wz.setCell ⟨g, 0, none⟩ (.slice A k c)).setCell ⟨g, 1, none⟩ (.int .u64 win)) B v R) ∧
    (∀ g' a n m x, g' ≠ g → PtB wz g' a n m x → PtB ((wz.setCell ⟨g, 0, none⟩ (.slice A k c)).setCell ⟨g, 1, none⟩ (.int .u64 win)) g' a n m x) :=
  ⟨(hp.set A k c).set1 win, (hb.setCell (p := ⟨g, 0, none⟩) hg _).setCell (p := ⟨g, 1, none⟩) hg _, by rw [World.size_setCell, World.size_setCell], fun _ _ h => exNs (exNs h hp 0 _) (hp.set A k c) 1 _, fun _ _ h => exGs (exGs h hp 0 _) (hp.set A k c) 1 _, fun _ _ _ _ _ hne h => (h.other _ _ _ hne).other _ _ _ hne⟩
theorem axB {w wz : World} {A : Option Addr} {k c : Nat} {wn : Nat} {D : List Nd} {A' : Option Addr} {k' c' : Nat} {wm : Nat} {E : List Nd} {rA : Option Addr} {rc : Nat} {R : List Lg} {g : Nat} (hg : w.heap.size ≤ g) (hp : PtB wz g none 0 0 0) (hd : ∃ B, OwnN wz B (.slice A k c) D) (he : ∃ B, OwnN wz B (.slice A' k' c') E) (hr : ∃ B, OwnLg wz B (.slice rA R.length rc) R) (hb : Below w.heap.size w wz) : AX w (((wz.setCell ⟨g, 0, none⟩ (.slice A k c)).setCell ⟨g, 1, none⟩ (.int .u64 (wn : Int))).alloc (ptobj A' k' c' (wm : Int))) g wz.heap.size A k c wn D A' k' c' wm E rA rc R := by
  obtain ⟨f1, f2, f3, f4, f5, f6⟩ := fill hg hp hb A k c (wn : Int)
  have := hp.lt
  exact ⟨f1.next (bal _ _), PtB.alloc' f3.symm, exN (f4 _ _ hd) (bal _ _), exN (f4 _ _ he) (bal _ _), exG (f5 _ _ hr) (bal _ _), below_go f2 (bal _ _), by omega, hb.size⟩
theorem axB2 {w wz : World} {A : Option Addr} {k c : Nat} {wn : Nat} {D : List Nd} {A' : Option Addr} {k' c' : Nat} {wm : Nat} {E : List Nd} {rA : Option Addr} {rc : Nat} {R : List Lg} {g : Nat} (hg : w.heap.size ≤ g) (hp : PtB wz g none 0 0 0) (hd : ∃ B, OwnN wz B (.slice A k c) D) (he : ∃ B, OwnN wz B (.slice A' k' c') E) (hr : ∃ B, OwnLg wz B (.slice rA R.length rc) R) (hb : Below w.heap.size w wz) : AX w (((wz.setCell ⟨g, 0, none⟩ (.slice A' k' c')).setCell ⟨g, 1, none⟩ (.int .u64 (wm : Int))).alloc (ptobj A k c (wn : Int))) wz.heap.size g A k c wn D A' k' c' wm E rA rc R := by
  obtain ⟨f1, f2, f3, f4, f5, f6⟩ := fill hg hp hb A' k' c' (wm : Int)
  have := hp.lt
  exact ⟨PtB.alloc' f3.symm, f1.next (bal _ _), exN (f4 _ _ hd) (bal _ _), exN (f4 _ _ he) (bal _ _), exG (f5 _ _ hr) (bal _ _), below_go f2 (bal _ _), by omega, hg⟩
theorem axC {w wz : World} {A : Option Addr} {k c : Nat} {wn : Nat} {D : List Nd} {A' : Option Addr} {k' c' : Nat} {wm : Nat} {E : List Nd} {rA : Option Addr} {rc : Nat} {R : List Lg} {g g2 : Nat} (hg : w.heap.size ≤ g) (hg2 : w.heap.size ≤ g2) (hne : g ≠ g2) (hp : PtB wz g none 0 0 0) (hq : PtB wz g2 none 0 0 0) (hd : ∃ B, OwnN wz B (.slice A k c) D) (he : ∃ B, OwnN wz B (.slice A' k' c') E) (hr : ∃ B, OwnLg wz B (.slice rA R.length rc) R) (hb : Below w.heap.size w wz) : AX w ((((wz.setCell ⟨g, 0, none⟩ (.slice A k c)).setCell ⟨g, 1, none⟩ (.int .u64 (wn : Int))).setCell ⟨g2, 0, none⟩ (.slice A' k' c')).setCell ⟨g2, 1, none⟩ (.int .u64 (wm : Int))) g g2 A k c wn D A' k' c' wm E rA rc R := by
  obtain ⟨f1, f2, f3, f4, f5, f6⟩ := fill hg hp hb A k c (wn : Int)
  obtain ⟨e1, e2, e3, e4, e5, e6⟩ := fill hg2 (f6 _ _ _ _ _ hne.symm hq) f2 A' k' c' (wm : Int)
  exact ⟨e6 _ _ _ _ _ hne f1, e1, e4 _ _ (f4 _ _ hd), e4 _ _ (f4 _ _ he), e5 _ _ (f5 _ _ hr), e2, hne, hg2⟩
theorem AX.next {w W W' : World} {g g2 : Nat} {A : Option Addr} {k c : Nat} {wn : Nat} {D : List Nd} {A' : Option Addr} {k' c' : Nat} {wm : Nat} {E : List Nd} {rA : Option Addr} {rc : Nat} {R : List Lg} (h : AX w W g g2 A k c wn D A' k' c' wm E rA rc R) (hb : Below W.heap.size W W') : AX w W' g g2 A k c wn D A' k' c' wm E rA rc R :=
  ⟨h.p.next hb, h.q.next hb, exN h.d hb, exN h.e hb, exG h.r hb, below_go h.bel hb, h.ne, h.b2⟩
theorem AX.setw {w W : World} {g g2 : Nat} {A : Option Addr} {k c : Nat} {wn : Nat} {D : List Nd} {A' : Option Addr} {k' c' : Nat} {wm : Nat} {E : List Nd} {rA : Option Addr} {rc : Nat} {R : List Lg} (h : AX w W g g2 A k c wn D A' k' c' wm E rA rc R) (wx : Nat) : AX w (W.setCell ⟨g2, 1, none⟩ (.int .u64 (wx : Int))) g g2 A k c wn D A' k' c' wx E rA rc R :=
  ⟨h.p.other _ _ _ h.ne, h.q.set1 _, exNs h.d h.q 1 _, exNs h.e h.q 1 _, exGs h.r h.q 1 _, h.bel.setCell (p := ⟨g2, 1, none⟩) h.b2 _, h.ne, h.b2⟩
theorem AX.pt {w W : World} {g g2 : Nat} {A : Option Addr} {k c : Nat} {wn : Nat} {D : List Nd} {A' : Option Addr} {k' c' : Nat} {wm : Nat} {E : List Nd} {rA : Option Addr} {rc : Nat} {R : List Lg} (h : AX w W g g2 A k c wn D A' k' c' wm E rA rc R) (hk : D.length = k) (h4 : k ≤ 1000) : Pt W A k c D := h.d.choose_spec.pt hk h4
theorem AX.qt {w W : World} {g g2 : Nat} {A : Option Addr} {k c : Nat} {wn : Nat} {D : List Nd} {A' : Option Addr} {k' c' : Nat} {wm : Nat} {E : List Nd} {rA : Option Addr} {rc : Nat} {R : List Lg} (h : AX w W g g2 A k c wn D A' k' c' wm E rA rc R) (hk : E.length = k') (h4 : k' ≤ 1000) : Pt W A' k' c' E := h.e.choose_spec.pt hk h4
theorem AX.lr {w W : World} {g g2 : Nat} {A : Option Addr} {k c : Nat} {wn : Nat} {D : List Nd} {A' : Option Addr} {k' c' : Nat} {wm : Nat} {E : List Nd} {rA : Option Addr} {rc : Nat} {R : List Lg} (h : AX w W g g2 A k c wn D A' k' c' wm E rA rc R) : Lr W rA R := by
  obtain ⟨A1, c1, e1, _, _, hl⟩ := h.r.choose_spec.form
  injection e1 with e1 _ _
  rw [e1]; exact hl
theorem AX.szs {w W : World} {g g2 : Nat} {A : Option Addr} {k c : Nat} {wn : Nat} {D : List Nd} {A' : Option Addr} {k' c' : Nat} {wm : Nat} {E : List Nd} {rA : Option Addr} {rc : Nat} {R : List Lg} (h : AX w W g g2 A k c wn D A' k' c' wm E rA rc R) : Szs R := fun x hx => (h.r.choose_spec.ev x hx).sz
theorem AX.sm {w W : World} {g g2 : Nat} {A : Option Addr} {k c : Nat} {wn : Nat} {D : List Nd} {A' : Option Addr} {k' c' : Nat} {wm : Nat} {E : List Nd} {rA : Option Addr} {rc : Nat} {R : List Lg} (h : AX w W g g2 A k c wn D A' k' c' wm E rA rc R) {L : List Nd} {m : Nat} (hk : D.length = k) (h4 : k ≤ 1000) (hc : D.map (cn 10) = (L.take m).map (cn 10)) (hs : ∀ v ∈ L, Sm v) : ∀ v ∈ D, Sm v :=
  sm_of hc hs (fun v hv => by have := (h.pt hk h4).ok v hv; exact ⟨by rw [this.p.len]; exact this.p.few, by rw [this.g.len]; exact this.g.few⟩)
theorem AX.smq {w W : World} {g g2 : Nat} {A : Option Addr} {k c : Nat} {wn : Nat} {D : List Nd} {A' : Option Addr} {k' c' : Nat} {wm : Nat} {E : List Nd} {rA : Option Addr} {rc : Nat} {R : List Lg} (h : AX w W g g2 A k c wn D A' k' c' wm E rA rc R) {L : List Nd} {m : Nat} (hk : E.length = k') (h4 : k' ≤ 1000) (hc : E.map (cn 10) = (L.take m).map (cn 10)) (hs : ∀ v ∈ L, Sm v) : ∀ v ∈ E, Sm v :=
  sm_of hc hs (fun v hv => by have := (h.qt hk h4).ok v hv; exact ⟨by rw [this.p.len]; exact this.p.few, by rw [this.g.len]; exact this.g.few⟩)
theorem len40 {D L : List Nd} {k : Nat} (hk : D.length = k) (hc : D.map (cn 10) = (L.take 40).map (cn 10)) : k ≤ 40 := by
  have h1 := congrArg List.length hc
  simp at h1
  omega
abbrev ptob2 (A : Option Addr) (k c : Nat) (wn : Int) (A' : Option Addr) (k' c' : Nat) (wm : Int) : Obj := .cells #[.slice A k c, .int .u64 wn, .slice A' k' c', .int .u64 wm] 30 (0, 0)
/- a pattern of a node with no questions but a guard, and of two parts -/
theorem two_whole {w W : World} {g g2 : Nat} {A : Option Addr} {k c : Nat} {wn : Nat} {D : List Nd} {A' : Option Addr} {k' c' : Nat} {wm : Nat} {E : List Nd} {rA : Option Addr} {rc : Nat} {R : List Lg} (h : AX w W g g2 A k c wn D A' k' c' wm E rA rc R) (hk : D.length = k) (h4 : k ≤ 40) (hk' : E.length = k') (h4' : k' ≤ 40) (x : Nd) (W' : World) (hb : Below W.heap.size W W') (hx : Nok W' x)
    (b : Nat) (f0 : W'.cell? ⟨b, 0, none⟩ = some (.slice A k c)) (f1 : W'.cell? ⟨b, 1, none⟩ = some (.int .u64 (wn : Int))) (f2 : W'.cell? ⟨b, 2, none⟩ = some (.slice A' k' c')) (f3 : W'.cell? ⟨b, 3, none⟩ = some (.int .u64 (wm : Int))) :
    Calls Tryz.prog 20 #[nOf x, .slice (some ⟨b, 0, none⟩) 2 2] W' fun e w' => (∃ A2 c2, e = .returned (ptv A2 (k + k' + 1) c2 (wn : Int)) ∧ Pt w' A2 (k + k' + 1) c2 (⟨x.k, x.p, x.y, x.g, x.lo, x.hi, ((D ++ E).length : Int)⟩ :: (D ++ E))) ∧ Below W'.heap.size W' w' := by
  have hfl : flt [⟨A, k, c, wn, D⟩, ⟨A', k', c', wm, E⟩] = D ++ E := by simp [flt]
  have n1 := h.d.choose_spec.nocap
  have n2 := h.e.choose_spec.nocap
  have hl : (D ++ E).length = k + k' := by rw [List.length_append, hk, hk']
  have := whole_any x (some ⟨b, 0, none⟩) [⟨A, k, c, wn, D⟩, ⟨A', k', c', wm, E⟩] 2 2 W' ⟨fun i hi => by
      have hi : i < 2 := hi
      rcases i with _ | _ | i
      · exact ⟨b, 0, rfl, f0, f1⟩
      · exact ⟨b, 0, rfl, f2, f3⟩
      · omega, fun y hy => by
      rcases List.mem_cons.1 hy with rfl | hy
      · exact ⟨(h.pt hk (by omega)).below hb, n1⟩
      · rw [List.mem_singleton] at hy
        subst hy
        exact ⟨(h.qt hk' (by omega)).below hb, n2⟩⟩ rfl (by omega) (by omega) (by rw [hfl, hl]; omega) hx
  rw [hfl] at this
  have e : (D ++ E).length + 1 = k + k' + 1 := by omega
  rw [e] at this
  exact this
theorem nok_free (w : World) (x : Nd) (hp : x.p = qz) (hg : x.g = qz) (h1 : 0 ≤ x.k) (h2 : x.k < 256) (h3 : x.lo = 0) (h4 : x.hi = 0) (h5 : x.s = 0) : Nok w x := by
  obtain ⟨k, p, y, g, lo, hi, s⟩ := x
  simp only at hp hg h1 h2 h3 h4 h5
  subst hp hg h3 h4 h5
  exact ⟨⟨rfl, by show (0 : Nat) ≤ 10; omega, fun i hi => absurd hi (by simp), by simp⟩, ⟨rfl, by show (0 : Nat) ≤ 10; omega, fun i hi => absurd hi (by simp), by simp⟩, h1, h2, by show (0 : Int) ≤ 0; omega, by show (0 : Int) < 256; omega, by show (0 : Int) ≤ 0; omega, by show (0 : Int) < 256; omega, by show (-9223372036854775808 : Int) ≤ 0; omega, by show (0 : Int) ≤ 9223372036854775807; omega⟩
theorem ownMt_empty (w : World) (B : Nat) (hB : B ≤ w.heap.size) : OwnMt (w.alloc (.cells #[] 46 (0, 0))) B (.slice (some ⟨w.heap.size, 0, none⟩) 0 0) [] :=
  ⟨rfl, .inr ⟨w.heap.size, 0, #[], rfl, hB, heap_alloc_new w _, by simp, by unfold maxLen; omega, rfl, rfl⟩⟩
theorem wpList_want {P : Program} {ops : Array Oper} {Q : Exit → Act → World → Prop} {a : Act} {w : World} {rest : List Oper} {o : Oper} (hw : Region.wanted o (yielded ops a.tmps) = true)
    (h : ∀ K : Act → World → Prop, (∀ a w, wpList P ops Q rest a w → K a w) → o.wp P a w K Q) : wpList P ops Q (o :: rest) a w :=
  wpList_step fun K hK => by rw [if_pos hw]; exact h K hK
theorem wp_appMsG {ops : Array Oper} {rest : List Oper} {o : Oper} {a : Act} {Q : Exit → Act → World → Prop} (s x : Operand) (w : World) (hgd : Region.wanted o (yielded ops a.tmps) = true)
    (hop : o.op = .call { callee := .builtin .append, args := #[s, x], argTypes := #[37, 37] })
    (B : Nat) (v : Value) (L : List Mt) (hs : a.eval s = v) (ho : OwnMt w B v L) (A : Option Addr) (m c : Nat) (M : List Mt) (hx : a.eval x = .slice A m c) (hm : M.length = m) (hb : Mrs w A M)
    (k : Nat) (hk : (L ++ M).length = k) (hlen : k ≤ 100000000) (hB : B ≤ w.heap.size)
    (h : ∀ A' c' w', OwnMt w' B (.slice A' k c') (L ++ M) → Below B w w' → wpList Tryz.prog ops Q rest (a.put o.dst (.slice A' k c')) w') : wpList Tryz.prog ops Q (o :: rest) a w := by
  refine wpList_want hgd fun K hK => ?_
  have hlen2 : L.length + m ≤ 100000000 := by rw [List.length_append] at hk; omega
  obtain ⟨v', w', hrun, h2, h3⟩ := run_appMs w B o.type v L ho A m c M hm hb hlen2 hB
  obtain ⟨A', c', rfl, hby⟩ := h2.form
  rw [hk] at h2 hrun
  unfold Oper.wp
  simp [execOp, hop, resolve, invoke, builtin, hs, hx, hrun, Result.andThen]
  exact hK _ _ (h A' c' w' h2 h3)
end Go.Proofs.YtccjflioaajgiaaGreatDoor
