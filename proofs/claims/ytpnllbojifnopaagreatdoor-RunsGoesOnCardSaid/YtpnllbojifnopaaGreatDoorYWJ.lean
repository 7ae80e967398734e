/- Contracts, joined: WiA, WiL, WiE, WiO, WiC, WiD, WiP. -/
import Derived.Test.YtpnllbojifnopaaGreatDoorYB3
import Derived.Test.YtpnllbojifnopaaGreatDoorMW
import Derived.Test.YtpnllbojifnopaaGreatDoorYB1
namespace Go.Proofs.YtpnllbojifnopaaGreatDoor
open Go Go.RowKit Pk Rl
set_option maxRecDepth 20000
abbrev wobjT (n : Nd) (pl : Nat) (A : Option Addr) (m C : Nat) : Obj := .cells #[.int .u8 n.k, .bool n.p.x, .int .u8 n.p.t, .slice n.p.a n.p.n n.p.c, .bool n.y, .bool n.g.x, .int .u8 n.g.t, .slice n.g.a n.g.n n.g.c, .int .u8 n.lo, .int .u8 n.hi, .int .i64 n.s, .int .i64 (pl : Int), .slice A m C] 127
def Wdb (w : World) (g : Nat) (n : Nd) (pl : Nat) (A : Option Addr) (m C : Nat) : Prop := w.heap[g]? = some (wobjT n pl A m C)
theorem Wdb.cells {w : World} {g : Nat} {n : Nd} {pl : Nat} {A : Option Addr} {m C : Nat} (h : Wdb w g n pl A m C) : Atn w g 0 n ∧ w.cell? ⟨g, 11, none⟩ = some (.int .i64 (pl : Int)) ∧ w.cell? ⟨g, 12, none⟩ = some (.slice A m C) := by
  refine ⟨⟨?_, ?_, ?_, ?_, ?_, ?_, ?_, ?_, ?_, ?_, ?_⟩, ?_, ?_⟩ <;> (rw [cell_of_row w g _ _ _ _ h]; rfl)
theorem Wdb.lt {w : World} {g : Nat} {n : Nd} {pl : Nat} {A : Option Addr} {m C : Nat} (h : Wdb w g n pl A m C) : g < w.heap.size := World.block_lt_of_cell? _ _ h.cells.2.2
theorem Wdb.below {B : Nat} {w w' : World} {g : Nat} {n : Nd} {pl : Nat} {A : Option Addr} {m C : Nat} (h : Wdb w g n pl A m C) (hb : Below B w w') (hg : g < B) : Wdb w' g n pl A m C := by unfold Wdb; rw [hb.block g hg]; exact h
theorem Wdb.start (w : World) (n : Nd) (pl : Nat) (A : Option Addr) (m C : Nat) : Wdb (w.alloc (wobjT n pl A m C)) w.heap.size n pl A m C := heap_alloc_new w _
def wch (k : Nat) (q : List Nd × Nat) : List (List Nd × Nat) := if (q.1.headD nz).k = 1 then [] else wp k q.1 q.2
def wpl (q : List Nd × Nat) : Nat := if (q.1.headD nz).k = 1 then q.2 else 0
def Wds : Nat → World → (Nat → Prop) → Option Addr → List (List Nd × Nat) → Prop
  | 0, _, _, _, qs => qs = []
  | k + 1, w, F, a, qs => ∀ i, i < qs.length → ∃ b off A C, a = some ⟨b, off, none⟩ ∧ F b ∧ Atn w b (off + i * 13) ((qs.getD i d0).1.headD nz) ∧ w.cell? ⟨b, off + i * 13 + 11, none⟩ = some (.int .i64 (wpl (qs.getD i d0) : Int)) ∧ w.cell? ⟨b, off + i * 13 + 12, none⟩ = some (.slice A (wch k (qs.getD i d0)).length C) ∧ Wds k w F A (wch k (qs.getD i d0))
theorem Wds.same {k : Nat} : ∀ {w w' : World} {F G : Nat → Prop} {a : Option Addr} {qs : List (List Nd × Nat)}, Wds k w F a qs → (∀ b, F b → w'.heap[b]? = w.heap[b]?) → (∀ b, F b → G b) → Wds k w' G a qs := by
  induction k with
  | zero => intro w w' F G a qs h _ _; exact h
  | succ k ih =>
    intro w w' F G a qs h e g i hi
    obtain ⟨b, off, A, C, ha, hF, hat, h1, h2, h3⟩ := h i hi
    have hc : ∀ j, w'.cell? ⟨b, j, none⟩ = w.cell? ⟨b, j, none⟩ := fun j => by simp only [World.cell?, e b hF]
    exact ⟨b, off, A, C, ha, g b hF, hat.same hc, by rw [hc]; exact h1, by rw [hc]; exact h2, ih h3 e g⟩
theorem Wds.below {k : Nat} {w w' : World} {F : Nat → Prop} {a : Option Addr} {qs : List (List Nd × Nat)} (h : Wds k w F a qs) (hb : Below w.heap.size w w') (hF : ∀ b, F b → b < w.heap.size) : Wds k w' F a qs :=
  h.same (fun b hf => hb.block b (hF b hf)) (fun _ hf => hf)
theorem Wds.nil (k : Nat) (w : World) (F : Nat → Prop) (a : Option Addr) : Wds k w F a [] := by
  cases k with
  | zero => rfl
  | succ k => exact fun i hi => absurd hi (by simp)
end Go.Proofs.YtpnllbojifnopaaGreatDoor
namespace Go.Proofs.YtpnllbojifnopaaGreatDoor
open Go Go.RowKit Pk Rl
set_option maxRecDepth 20000
end Go.Proofs.YtpnllbojifnopaaGreatDoor
namespace Go.Proofs.YtpnllbojifnopaaGreatDoor
open Go Go.RowKit Pk Rl
set_option maxRecDepth 20000
theorem NB.free {w : World} {g : Nat} {nd : Nd} (h : NB w g nd) (j : Nat) : w.frozen? ⟨g, j, none⟩ = false := by
  simp [World.frozen?, NB] at h ⊢
  simp [h]
end Go.Proofs.YtpnllbojifnopaaGreatDoor
namespace Go.Proofs.YtpnllbojifnopaaGreatDoor
open Go Go.RowKit Pk Rl
set_option maxRecDepth 20000
abbrev Wi := Nd × Nat × Option Addr × Nat × Nat
abbrev wiz : Wi := (nz, 0, none, 0, 0)
def wcl (x : Wi) : List Value := ncl x.1 ++ [.int .i64 (x.2.1 : Int), .slice x.2.2.1 x.2.2.2.1 x.2.2.2.2]
def wcls (X : List Wi) : List Value := X.flatMap wcl
theorem wcl_len (x : Wi) : (wcl x).length = 13 := rfl
theorem wcls_get (X : List Wi) (i : Nat) (hi : i < X.length) (j : Nat) (hj : j < 13) : (wcls X)[i * 13 + j]? = (wcl (X.getD i wiz))[j]? := by
  induction X generalizing i with
  | nil => simp at hi
  | cons v X ih =>
    show (wcl v ++ wcls X)[i * 13 + j]? = _
    have h4 := wcl_len v
    rcases i with _ | i
    · rw [List.getElem?_append_left (by omega)]; simp
    · rw [List.getElem?_append_right (by omega), h4, show (i + 1) * 13 + j - 13 = i * 13 + j by omega, ih i (by simpa using hi)]; simp
def Wkid (k : Nat) (w : World) (B : Nat) (v : Value) (p : List Nd × Nat) (x : Wi) : Prop :=
  x.1 = p.1.headD nz ∧ x.2.1 = wpl p ∧ x.2.2.2.1 = (wch k p).length ∧ Wds k w (fun b => B ≤ b ∧ b < w.heap.size ∧ v.ownBlock ≠ some b) x.2.2.1 (wch k p)
def OwnW (k : Nat) (w : World) (B : Nat) (v : Value) (D : List (List Nd × Nat)) : Prop :=
  ∃ X, X.length = D.length ∧ w.ownsRow B 127 13 v D.length (wcls X) ∧ ∀ i, i < D.length → Wkid k w B v (D.getD i d0) (X.getD i wiz)
theorem rowW_below {w w' : World} {B n : Nat} {v : Value} {cs : List Value} (h : w.ownsRow B 127 13 v n cs) (hb : Below w.heap.size w w') : w'.ownsRow B 127 13 v n cs := by
  refine ⟨h.1, ?_⟩
  rcases h.2 with h0 | ⟨g, cap, cur, hv, hg, hh, r⟩
  · exact .inl h0
  · refine .inr ⟨g, cap, cur, hv, hg, ?_, r⟩
    rw [hb.block g ?_]
    · exact hh
    · rcases Nat.lt_or_ge g w.heap.size with h1 | h1
      · exact h1
      · rw [Array.getElem?_eq_none h1] at hh; cases hh
theorem rowW_set {w : World} {B n : Nat} {v : Value} {cs : List Value} (h : w.ownsRow B 127 13 v n cs) (g j : Nat) (hg : g < B) (x : Value) : (w.setCell ⟨g, j, none⟩ x).ownsRow B 127 13 v n cs := by
  refine ⟨h.1, ?_⟩
  rcases h.2 with h0 | ⟨r, cap, cur, hv, hr, hh, t⟩
  · exact .inl h0
  · refine .inr ⟨r, cap, cur, hv, hr, ?_, t⟩
    rw [heap_setCell_other w ⟨g, j, none⟩ r x (by show r ≠ g; omega)]
    exact hh
theorem Wkid.mono {k : Nat} {w w' : World} {B : Nat} {v : Value} {p : List Nd × Nat} {x : Wi} (h : Wkid k w B v p x) (e : ∀ b, B ≤ b → b < w.heap.size → v.ownBlock ≠ some b → w'.heap[b]? = w.heap[b]?) (hs : w.heap.size ≤ w'.heap.size) : Wkid k w' B v p x :=
  ⟨h.1, h.2.1, h.2.2.1, h.2.2.2.same (fun b hb => e b hb.1 hb.2.1 hb.2.2) (fun b hb => ⟨hb.1, by omega, hb.2.2⟩)⟩
theorem OwnW.below {k : Nat} {w w' : World} {B : Nat} {v : Value} {D : List (List Nd × Nat)} (h : OwnW k w B v D) (hb : Below w.heap.size w w') : OwnW k w' B v D := by
  obtain ⟨X, h1, h2, h3⟩ := h
  exact ⟨X, h1, rowW_below h2 hb, fun i hi => (h3 i hi).mono (fun b _ h _ => hb.block b h) hb.size⟩
theorem OwnW.set {k : Nat} {w : World} {B : Nat} {v : Value} {D : List (List Nd × Nat)} (h : OwnW k w B v D) (g j : Nat) (hg : g < B) (x : Value) : OwnW k (w.setCell ⟨g, j, none⟩ x) B v D := by
  obtain ⟨X, h1, h2, h3⟩ := h
  exact ⟨X, h1, rowW_set h2 g j hg x, fun i hi => (h3 i hi).mono (fun b hB _ _ => heap_setCell_other w ⟨g, j, none⟩ b x (by show b ≠ g; omega)) (by simp)⟩
theorem OwnW.nil (k : Nat) (w : World) (B : Nat) : OwnW k w B (.slice none 0 0) [] := ⟨[], rfl, World.ownsRow_nil w B 127 13, fun i hi => absurd hi (by simp)⟩
theorem OwnW.form {k : Nat} {w : World} {B : Nat} {v : Value} {D : List (List Nd × Nat)} (h : OwnW k w B v D) : ∃ A c, v = .slice A D.length c ∧ Wds (k + 1) w (fun b => B ≤ b ∧ b < w.heap.size) A D := by
  obtain ⟨X, h1, h2, h3⟩ := h
  rcases h2.2 with ⟨rfl, h0⟩ | ⟨g, cap, cur, rfl, hg, hh, _⟩
  · have : D = [] := List.eq_nil_of_length_eq_zero h0
    subst this
    exact ⟨none, 0, rfl, Wds.nil _ _ _ _⟩
  · have hlt : g < w.heap.size := by
      rcases Nat.lt_or_ge g w.heap.size with h1 | h1
      · exact h1
      · rw [Array.getElem?_eq_none h1] at hh; cases hh
    refine ⟨_, _, rfl, fun i hi => ?_⟩
    have key : ∀ j u, j < 13 → (wcl (X.getD i wiz))[j]? = some u → w.cell? ⟨g, 0 + i * 13 + j, none⟩ = some u := fun j u hj hu => by
      have := World.ownsRow.cells h2 (g := g) rfl (i * 13 + j) u (by rw [wcls_get X i (by omega) j hj]; exact hu)
      rwa [add_plain, ← Nat.add_assoc] at this
    obtain ⟨k1, k2, k3, k4⟩ := h3 i hi
    refine ⟨g, 0, (X.getD i wiz).2.2.1, (X.getD i wiz).2.2.2.2, rfl, ⟨hg, hlt⟩, ?_, ?_, ?_, k4.same (fun _ _ => rfl) (fun b hb => ⟨hb.1, hb.2.1⟩)⟩
    · rw [← k1]
      exact ⟨key 0 _ (by omega) rfl, key 1 _ (by omega) rfl, key 2 _ (by omega) rfl, key 3 _ (by omega) rfl, key 4 _ (by omega) rfl, key 5 _ (by omega) rfl, key 6 _ (by omega) rfl, key 7 _ (by omega) rfl, key 8 _ (by omega) rfl, key 9 _ (by omega) rfl, key 10 _ (by omega) rfl⟩
    · rw [← k2]
      exact key 11 _ (by omega) rfl
    · rw [← k3]
      exact key 12 _ (by omega) rfl
theorem Wdb.set {w : World} {g : Nat} {n : Nd} {pl : Nat} {A : Option Addr} {m C : Nat} (h : Wdb w g n pl A m C) (A' : Option Addr) (m' C' : Nat) : Wdb (w.setCell ⟨g, 12, none⟩ (.slice A' m' C')) g n pl A' m' C' := by
  unfold Wdb
  rw [heap_setCell_same w g 12 _ _ _ h]
  rfl
theorem Wdb.free {w : World} {g : Nat} {n : Nd} {pl : Nat} {A : Option Addr} {m C : Nat} (h : Wdb w g n pl A m C) (j : Nat) : w.frozen? ⟨g, j, none⟩ = false := by
  simp [World.frozen?, Wdb] at h ⊢
  simp [h]
theorem Wkid.new {k : Nat} {w w' : World} {B : Nat} {v : Value} {D : List (List Nd × Nat)} (hO : OwnW k w B v D) (hB : B ≤ w.heap.size) {p : List Nd × Nat} {A : Option Addr} (C : Nat) (hT : Wds k w' (fun b => w.heap.size ≤ b ∧ b < w'.heap.size) A (wch k p)) : Wkid k w' B v p (p.1.headD nz, wpl p, A, (wch k p).length, C) := by
  obtain ⟨X, h1, h2, h3⟩ := hO
  refine ⟨rfl, rfl, rfl, hT.same (fun _ _ => rfl) (fun b hb => ⟨by omega, hb.2, fun e => ?_⟩)⟩
  have := (World.ownsRow.lt h2 b e).2
  omega
end Go.Proofs.YtpnllbojifnopaaGreatDoor
namespace Go.Proofs.YtpnllbojifnopaaGreatDoor
open Go Go.RowKit Pk Rl
set_option maxRecDepth 20000
structure Bw (k : Nat) (w W : World) (nd : Nd) (Ta : Option Addr) (Tm Tc : Nat) (A : Option Addr) (m c : Nat) (D : List (List Nd × Nat)) : Prop where
  tb : Trb W w.heap.size nd Ta Tm Tc
  res : Wdb W (w.heap.size + 1) nz 0 none 0 0
  box : Wdb W (w.heap.size + 2) nd 0 A m c
  own : OwnW k W (w.heap.size + 3) (.slice A m c) D
  bel : Below w.heap.size w W
  big : w.heap.size + 3 ≤ W.heap.size
  len : D.length = m
theorem Bw.next {k : Nat} {w W W' : World} {nd : Nd} {Ta : Option Addr} {Tm Tc : Nat} {A : Option Addr} {m c : Nat} {D : List (List Nd × Nat)} (h : Bw k w W nd Ta Tm Tc A m c D) (hb : Below W.heap.size W W') : Bw k w W' nd Ta Tm Tc A m c D :=
  ⟨h.tb.below hb (by have := h.big; omega), h.res.below hb (by have := h.big; omega), h.box.below hb (by have := h.big; omega), h.own.below hb, below_go h.bel hb, Nat.le_trans h.big hb.size, h.len⟩
theorem Bw.start (k : Nat) (w : World) (nd : Nd) (Ta : Option Addr) (Tm Tc : Nat) : Bw k w (((w.alloc (tobjT nd Ta Tm Tc)).alloc (wobjT nz 0 none 0 0)).alloc (wobjT nd 0 none 0 0)) nd Ta Tm Tc none 0 0 [] := by
  have h0 := ((Trb.start w nd Ta Tm Tc).below (below_alloc _ (wobjT nz 0 none 0 0)) (by simp)).below (below_alloc _ (wobjT nd 0 none 0 0)) (by simp; omega)
  have h1 := (Wdb.start (w.alloc (tobjT nd Ta Tm Tc)) nz 0 none 0 0).below (below_alloc _ (wobjT nd 0 none 0 0)) (by simp)
  have h2 := Wdb.start ((w.alloc (tobjT nd Ta Tm Tc)).alloc (wobjT nz 0 none 0 0)) nd 0 none 0 0
  rw [World.size_alloc] at h1
  rw [World.size_alloc, World.size_alloc] at h2
  exact ⟨h0, h1, h2, OwnW.nil _ _ _, below_go (below_go (below_alloc w _) (below_alloc _ _)) (below_alloc _ _), by simp, rfl⟩
theorem Bw.step {k : Nat} {w W W' : World} {nd : Nd} {Ta : Option Addr} {Tm Tc : Nat} {A : Option Addr} {m c : Nat} {D : List (List Nd × Nat)} (h : Bw k w W nd Ta Tm Tc A m c D) {A' : Option Addr} {m' c' : Nat} {D' : List (List Nd × Nat)} (hO : OwnW k W' (w.heap.size + 3) (.slice A' m' c') D') (hb : Below (w.heap.size + 3) W W') (hl : D'.length = m') :
    Bw k w (W'.setCell ⟨w.heap.size + 2, 12, none⟩ (.slice A' m' c')) nd Ta Tm Tc A' m' c' D' := by
  refine ⟨?_, ?_, (h.box.below hb (by omega)).set _ _ _, hO.set _ _ (by omega) _, (h.bel.trans (hb.mono (by omega))).setCell (by show w.heap.size ≤ w.heap.size + 2; omega) _, by rw [World.size_setCell]; exact Nat.le_trans h.big hb.size, hl⟩
  · have := h.tb.below hb (by omega)
    unfold Trb at this ⊢
    rw [heap_setCell_other W' ⟨w.heap.size + 2, 12, none⟩ _ _ (by show w.heap.size ≠ w.heap.size + 2; omega)]
    exact this
  · have := h.res.below hb (by omega)
    unfold Wdb at this ⊢
    rw [heap_setCell_other W' ⟨w.heap.size + 2, 12, none⟩ _ _ (by show w.heap.size + 1 ≠ w.heap.size + 2; omega)]
    exact this
def rps (R : List (List Nd)) (t i : Nat) : List (List Nd) := (List.replicate t R).flatten ++ R.take i
structure Bx (k : Nat) (w W : World) (nd : Nd) (R : List (List Nd)) (Ta : Option Addr) (Tc : Nat) (n t i s : Nat) (A : Option Addr) (m c : Nat) (D : List (List Nd × Nat)) : Prop where
  b : Bw k w W nd Ta R.length Tc A m c D
  d : D = bs (cnt (k + 1)) n (rps R t i)
  s : s = n + ((rps R t i).map (cnt (k + 1))).sum
end Go.Proofs.YtpnllbojifnopaaGreatDoor
namespace Go.Proofs.YtpnllbojifnopaaGreatDoor
open Go Go.RowKit Pk Rl
set_option maxRecDepth 20000
end Go.Proofs.YtpnllbojifnopaaGreatDoor
namespace Go.Proofs.YtpnllbojifnopaaGreatDoor
open Go Go.RowKit Pk Rl
set_option maxRecDepth 20000
theorem OwnQ'.below {w w' : World} {B : Nat} {v : Value} {D : List Qu} (h : OwnQ' w B v D) (hb : Below w.heap.size w w') : OwnQ' w' B v D :=
  row_same h fun g cur _ hh => by rw [hb.block g (Array.getElem?_eq_some_iff.1 hh).1]; exact hh
theorem OwnQ'.low {w : World} {B B' : Nat} {v : Value} {D : List Qu} (h : OwnQ' w B v D) (hB : B' ≤ B) : OwnQ' w B' v D := by
  refine ⟨h.1, ?_⟩
  rcases h.2 with h0 | ⟨g, cap, cur, hv, hg, r⟩
  · exact .inl h0
  · exact .inr ⟨g, cap, cur, hv, by omega, r⟩
end Go.Proofs.YtpnllbojifnopaaGreatDoor
