/- Automata by value; rows of parts that stay while an automaton is made. -/
import Derived.Test.YtpnllbojifnopaaGreatDoorAuJ
import Derived.Test.YtpnllbojifnopaaGreatDoorAuR
namespace Go.Proofs.YtpnllbojifnopaaGreatDoor
open Go Go.RowKit Pk Rl
set_option maxRecDepth 20000

abbrev Res := Nat × Nat × List VQ × List EV
abbrev Res.P (s : Res) : List VQ := s.2.2.1
abbrev Res.E (s : Res) : List EV := s.2.2.2
/- one of the parts -/
def eis (f : List Nd → Nat → Res) (n : Nat) (s : Res) (p : List Nd) : Res :=
  (s.1 ||| (f p (n + s.2.2.1.length)).1, s.2.1 ||| (f p (n + s.2.2.1.length)).2.1, s.2.2.1 ++ (f p (n + s.2.2.1.length)).2.2.1, s.2.2.2 ++ (f p (n + s.2.2.1.length)).2.2.2)
def ei (f : List Nd → Nat → Res) (n : Nat) (ps : List (List Nd)) : Res := ps.foldl (eis f n) (0, 0, [], [])
/- one behind the other -/
structure Cs where
  fi : Nat
  la : Nat
  af : Nat
  al : Nat
  P : List VQ
  E : List EV
  i : Nat
def cs0 : Cs := ⟨0, 0, 0, 0, [], [], 0⟩
def cst (f : List Nd → Nat → Res) (n : Nat) (y : Bool) (g : VQ) (least : Nat) (s : Cs) (p : List Nd) : Cs :=
  { fi := if s.i = 0 then (f p (n + s.P.length)).1 else s.fi, la := if least ≤ s.i + 1 then s.la ||| (f p (n + s.P.length)).2.1 else s.la, af := (f p (n + s.P.length)).1, al := (f p (n + s.P.length)).2.1,
    P := s.P ++ (f p (n + s.P.length)).2.2.1, E := s.E ++ (f p (n + s.P.length)).2.2.2 ++ jn y g s.al (f p (n + s.P.length)).1, i := s.i + 1 }
def chf (f : List Nd → Nat → Res) (n : Nat) (y : Bool) (g : VQ) (least : Nat) (ps : List (List Nd)) : Cs := ps.foldl (cst f n y g least) cs0
def ch (f : List Nd → Nat → Res) (n : Nat) (y : Bool) (g : VQ) (least : Nat) (ps : List (List Nd)) : Res := ((chf f n y g least ps).fi, (chf f n y g least ps).la, (chf f n y g least ps).P, (chf f n y g least ps).E)
def au : Nat → List Nd → Nat → Res
  | 0, _, _ => (0, 0, [], [])
  | k + 1, l, n => if (l.headD nz).k = 2 then ch (au k) n (l.headD nz).y (vq (l.headD nz).g) (pts l).length (pts l)
    else if (l.headD nz).k = 3 then ei (au k) n (pts l)
    else if (l.headD nz).k = 4 then ch (au k) n (l.headD nz).y (vq (l.headD nz).g) (l.headD nz).lo.toNat (List.replicate (l.headD nz).hi.toNat ((pts l).headD []))
    else (2 ^ n, 2 ^ n, [vq (l.headD nz).p], [])
theorem foldl_snoc {α β : Type} (f : α → β → α) (s : α) (l : List β) (d : β) (i : Nat) (h : i < l.length) : (l.take (i + 1)).foldl f s = f ((l.take i).foldl f s) (l.getD i d) := by
  rw [List.take_succ_eq_append_getElem h, List.foldl_append, List.getD_eq_getElem?_getD, List.getElem?_eq_getElem h]; rfl
theorem foldl_rise {α β : Type} (f : α → β → α) (m : α → Nat) (h : ∀ s b, m s ≤ m (f s b)) (l : List β) : ∀ s, m s ≤ m (l.foldl f s) := by
  induction l with
  | nil => intro s; exact Nat.le_refl _
  | cons b l ih => intro s; exact Nat.le_trans (h s b) (ih (f s b))
theorem foldl_part {α β : Type} (f : α → β → α) (m : α → Nat) (h : ∀ s b, m s ≤ m (f s b)) (l : List β) (s : α) (i : Nat) : m ((l.take i).foldl f s) ≤ m (l.foldl f s) := by
  conv => rhs; rw [← List.take_append_drop i l, List.foldl_append]
  exact foldl_rise f m h _ _
theorem eis_P (f : List Nd → Nat → Res) (n : Nat) (s : Res) (p : List Nd) : s.2.2.1.length ≤ (eis f n s p).2.2.1.length := by unfold eis; simp
theorem eis_E (f : List Nd → Nat → Res) (n : Nat) (s : Res) (p : List Nd) : s.2.2.2.length ≤ (eis f n s p).2.2.2.length := by unfold eis; simp
theorem cst_P (f : List Nd → Nat → Res) (n : Nat) (y : Bool) (g : VQ) (least : Nat) (s : Cs) (p : List Nd) : s.P.length ≤ (cst f n y g least s p).P.length := by unfold cst; simp
theorem cst_E (f : List Nd → Nat → Res) (n : Nat) (y : Bool) (g : VQ) (least : Nat) (s : Cs) (p : List Nd) : s.E.length ≤ (cst f n y g least s p).E.length := by unfold cst; simp
theorem cst_i (f : List Nd → Nat → Res) (n : Nat) (y : Bool) (g : VQ) (least : Nat) (ps : List (List Nd)) : ∀ s : Cs, (ps.foldl (cst f n y g least) s).i = s.i + ps.length := by
  induction ps with
  | nil => intro s; rfl
  | cons p ps ih => intro s; rw [List.foldl_cons, ih]; show s.i + 1 + ps.length = _; simp; omega
/- rows of parts, with the block that they lie in -/
def PrT (wb W : World) (A : Option Addr) (ps : List (List Nd)) : Prop := ∃ (g : Nat) (cur : Array Value), A = some ⟨g, 0, none⟩ ∧ W.heap[g]? = some (.cells cur 26 (0, 0)) ∧ ∀ i, i < ps.length → ∃ A' C, cur[i]? = some (.slice A' (ps.getD i []).length C) ∧ Pt wb A' (ps.getD i []).length C (ps.getD i [])
theorem PrT.next {wb W W' : World} {A : Option Addr} {ps : List (List Nd)} (h : PrT wb W A ps) (hb : Below W.heap.size W W') : PrT wb W' A ps := by
  obtain ⟨g, cur, e, hh, k⟩ := h
  exact ⟨g, cur, e, by rw [hb.block g (Array.getElem?_eq_some_iff.1 hh).1]; exact hh, k⟩
theorem PrT.ka {wb W W' : World} {A : Option Addr} {ps : List (List Nd)} {r : Nat} {P : List VQ} {E : List EV} (h : PrT wb W A ps) (hk : Ka r W W') (hM : Mk W r P E) : PrT wb W' A ps := by
  obtain ⟨g, cur, e, hh, k⟩ := h
  refine ⟨g, cur, e, hk.b g _ hh (fun e2 => ?_) (fun _ _ _ e => by injection e with _ e _; rw [← e]; decide), k⟩
  obtain ⟨_, _, _, _, _, _, _, _, hMi, _⟩ := hM
  have := hMi.box
  rw [← e2, hh] at this
  injection this with this
  injection this with _ this _
  revert this
  decide
theorem PrT.eset {wb W : World} {A : Option Addr} {ps : List (List Nd)} (h : PrT wb W A ps) {g a b : Nat} (hg : EB W g a b) (j : Nat) (v : Value) : PrT wb (W.setCell ⟨g, j, none⟩ v) A ps := by
  obtain ⟨g', cur, e, hh, k⟩ := h
  refine ⟨g', cur, e, ?_, k⟩
  rw [heap_setCell_other W ⟨g, j, none⟩ g' v (fun e2 => ?_)]
  · exact hh
  · have e3 : g' = g := e2
    unfold EB at hg
    rw [← e3, hh] at hg
    injection hg with hg
    injection hg with _ hg _
    revert hg
    decide
theorem PrT.at {wb W : World} {A : Option Addr} {ps : List (List Nd)} (h : PrT wb W A ps) (_hne : ps ≠ []) : ∃ g, A = some ⟨g, 0, none⟩ ∧ g < W.heap.size ∧ ∀ i, i < ps.length → ∃ A' C, W.cell? ⟨g, i, none⟩ = some (.slice A' (ps.getD i []).length C) ∧ Pt wb A' (ps.getD i []).length C (ps.getD i []) := by
  obtain ⟨g, cur, e, hh, k⟩ := h
  refine ⟨g, e, (Array.getElem?_eq_some_iff.1 hh).1, fun i hi => ?_⟩
  obtain ⟨A', C, h1, h2⟩ := k i hi
  exact ⟨A', C, by rw [cell_of_row W g i _ _ _ hh]; exact h1, h2⟩
/- what pattern answers -/
def PtR (r : Nat) (w : World) (s : Res) (P : List VQ) (E : List EV) (e : Ending) (w' : World) : Prop := e = .returned (ev2 s.1 s.2.1) ∧ Mk w' r (P ++ s.2.2.1) (E ++ s.2.2.2) ∧ Ka r w w'
def AC (wb : World) (r : Nat) (f : List Nd → Nat → Res) (p : List Nd) : Prop :=
  ∀ (w : World) (A : Option Addr) (n c : Nat) (P : List VQ) (E : List EV), Mk w r P E → Below wb.heap.size wb w → Pt wb A n c p → P.length + (f p P.length).2.2.1.length ≤ 32 → E.length + (f p P.length).2.2.2.length ≤ 1000000000 →
    Calls Tryz.prog 44 #[.pointer (some ⟨r, 0, none⟩), .slice A n c] w fun e w' => PtR r w (f p P.length) P E e w'
theorem join_any (r : Nat) (nd : Nd) (a1 a2 n1 n2 : Nat) (P : List VQ) (E : List EV) (wb w : World) (h : Mk w r P E) (ha2 : a2 < 4294967296) (hn1 : n1 < 4294967296) (hnd : Nok wb nd) (hT : Tab5 wb) (hwb : Below wb.heap.size wb w) (hrb : wb.heap.size ≤ r) (hE : E.length ≤ 1000000000) :
    Calls Tryz.prog 112 #[.pointer (some ⟨r, 0, none⟩), nOf nd, ev2 a1 a2, ev2 n1 n2] w fun e w' => JnR r w P (E ++ jn nd.y (vq nd.g) a2 n1) e w' :=
  callsIn_wide.1 (join_in r nd a1 a2 n1 n2 P E wb w h ha2 hn1 hnd hT hwb hrb hE)
end Go.Proofs.YtpnllbojifnopaaGreatDoor
