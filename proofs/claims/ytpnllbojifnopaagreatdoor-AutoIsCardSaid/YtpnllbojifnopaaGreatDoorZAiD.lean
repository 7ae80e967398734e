/- The statement's own walks through an automaton. -/
import Derived.Test.YtpnllbojifnopaaGreatDoorZACV
import Derived.Test.YtpnllbojifnopaaGreatDoorZAiB
import Derived.Test.YtpnllbojifnopaaGreatDoorZAIX
namespace Go.Proofs.YtpnllbojifnopaaGreatDoor
open Go Go.RowKit Go.Maps Pk Rl
set_option maxRecDepth 20000
abbrev rowN (g n j : Nat) : Value := .slice (some ⟨g + 1 + j, 0, none⟩) n n
structure Mw (W : World) (g n N d : Nat) (f : Rl2) : Prop where
  out : ∃ cur, W.heap[g]? = some (.cells cur 66 (0, 0)) ∧ cur.size = N ∧ ∀ j, j < d → cur[j]? = some (rowN g n j)
  row : ∀ j, j < d → ∃ cur, W.heap[g + 1 + j]? = some (.cells cur 4 (0, 0)) ∧ cur.size = n ∧ ∀ q, q < n → cur[q]? = some (.bool (f j q))
section
variable {W W' : World} {g n N d : Nat} {f : Rl2}
theorem Mw.cellO (h : Mw W g n N d f) (j : Nat) (hj : j < d) : W.cell? ⟨g, j, none⟩ = some (rowN g n j) := by
  obtain ⟨cur, h1, _, h3⟩ := h.out
  rw [cell_of_row W g j _ _ _ h1]
  exact h3 j hj
theorem Mw.some (h : Mw W g n N d f) (j : Nat) (hj : j < N) : ∃ u, W.cell? ⟨g, j, none⟩ = .some u := by
  obtain ⟨cur, h1, h2, _⟩ := h.out
  rw [cell_of_row W g j _ _ _ h1]
  exact ⟨cur[j]'(by omega), Array.getElem?_eq_getElem (by omega)⟩
theorem Mw.freeO (h : Mw W g n N d f) (j : Nat) : W.frozen? ⟨g, j, none⟩ = false := by
  obtain ⟨cur, h1, _⟩ := h.out
  simp [World.frozen?, h1]
theorem Mw.ltO (h : Mw W g n N d f) : g < W.heap.size := by
  obtain ⟨cur, h1, _⟩ := h.out
  exact (Array.getElem?_eq_some_iff.1 h1).1
theorem Mw.cellR (h : Mw W g n N d f) (j : Nat) (hj : j < d) (q : Nat) (hq : q < n) : W.cell? ⟨g + 1 + j, q, none⟩ = .some (.bool (f j q)) := by
  obtain ⟨cur, h1, _, h3⟩ := h.row j hj
  rw [cell_of_row W _ q _ _ _ h1]
  exact h3 q hq
theorem Mw.freeR (h : Mw W g n N d f) (j : Nat) (hj : j < d) (q : Nat) : W.frozen? ⟨g + 1 + j, q, none⟩ = false := by
  obtain ⟨cur, h1, _⟩ := h.row j hj
  simp [World.frozen?, h1]
theorem Mw.ltR (h : Mw W g n N d f) (j : Nat) (hj : j < d) : g + 1 + j < W.heap.size := by
  obtain ⟨cur, h1, _⟩ := h.row j hj
  exact (Array.getElem?_eq_some_iff.1 h1).1
theorem Mw.same (h : Mw W g n N d f) (e : ∀ x, g ≤ x → x ≤ g + d → W'.heap[x]? = W.heap[x]?) : Mw W' g n N d f :=
  ⟨by rw [e g (Nat.le_refl _) (by omega)]; exact h.out, fun j hj => by rw [e _ (by omega) (by omega)]; exact h.row j hj⟩
theorem Mw.put (h : Mw W g n N d f) (j : Nat) (hj : j < d) (q : Nat) (hq : q < n) (x : Bool) : Mw (W.setCell ⟨g + 1 + j, q, none⟩ (.bool x)) g n N d (fun a b => if a = j ∧ b = q then x else f a b) := by
  refine ⟨?_, fun j2 hj2 => ?_⟩
  · rw [heap_setCell_other W ⟨g + 1 + j, q, none⟩ g _ (by show g ≠ g + 1 + j; omega)]; exact h.out
  · obtain ⟨cur, h1, h2, h3⟩ := h.row j2 hj2
    by_cases c : j2 = j
    · subst c
      refine ⟨cur.set! q (.bool x), heap_setCell_same W _ q _ _ _ h1, by simp [h2], fun b hb => ?_⟩
      by_cases e : b = q
      · subst e
        rw [if_pos ⟨rfl, rfl⟩]
        simp [Array.set!_eq_setIfInBounds, Array.getElem?_setIfInBounds]
        omega
      · rw [if_neg (fun c => e c.2), ← h3 b hb]
        simp [Array.set!_eq_setIfInBounds, Array.getElem?_setIfInBounds]
        intro e2
        exact absurd e2.symm e
    · refine ⟨cur, ?_, h2, fun b hb => by rw [if_neg (fun e => c e.1)]; exact h3 b hb⟩
      rw [heap_setCell_other W ⟨g + 1 + j, q, none⟩ _ _ (by show g + 1 + j2 ≠ g + 1 + j; omega)]
      exact h1
theorem Mw.congr (h : Mw W g n N d f) {f' : Rl2} (e : ∀ j q, j < d → q < n → f j q = f' j q) : Mw W g n N d f' :=
  ⟨h.out, fun j hj => by
    obtain ⟨cur, h1, h2, h3⟩ := h.row j hj
    exact ⟨cur, h1, h2, fun q hq => by rw [h3 q hq, e j q hj hq]⟩⟩
theorem Mw.start (W : World) (n N : Nat) (f : Rl2) : Mw (W.alloc (.cells (madeCells #[.slice none 0 0] N) 66)) W.heap.size n N 0 f :=
  ⟨⟨_, heap_alloc_new W _, by simp [madeCells], fun j hj => absurd hj (by omega)⟩, fun j hj => absurd hj (by omega)⟩
theorem Mw.more (h : Mw W g n N d fun _ _ => false) (hd : d < N) (hs : W.heap.size = g + 1 + d) : Mw ((W.alloc (.cells (madeCells #[.bool false] n) 4)).setCell ⟨g, d, none⟩ (rowN g n d)) g n N (d + 1) fun _ _ => false := by
  have h0 := h.ltO
  obtain ⟨cur, h1, h2, h3⟩ := h.out
  have hb := below_alloc W (.cells (madeCells #[.bool false] n) 4)
  have h1' := (hb.block g h0).trans h1
  refine ⟨⟨cur.set! d (rowN g n d), heap_setCell_same _ g d _ _ _ h1', by simp [h2], fun j hj => ?_⟩, fun j hj => ?_⟩
  · by_cases c : j = d
    · subst c
      simp [Array.set!_eq_setIfInBounds, Array.getElem?_setIfInBounds]
      omega
    · rw [← h3 j (by omega)]
      simp [Array.set!_eq_setIfInBounds, Array.getElem?_setIfInBounds]
      intro e2
      exact absurd e2.symm c
  · by_cases c : j = d
    · subst c
      refine ⟨madeCells #[.bool false] n, ?_, by simp [madeCells], fun q hq => by simp [madeCells, Nat.mod_one, hq]⟩
      rw [heap_setCell_other _ ⟨g, j, none⟩ _ _ (by show g + 1 + j ≠ g; omega), ← hs]
      exact heap_alloc_new W _
    · obtain ⟨cur2, k1, k2, k3⟩ := h.row j (by omega)
      refine ⟨cur2, ?_, k2, k3⟩
      rw [heap_setCell_other _ ⟨g, d, none⟩ _ _ (by show g + 1 + j ≠ g; omega), hb.block _ (by omega)]
      exact k1
end
theorem infoBB : ∃ i, Tryz.prog.info? 66 = some i ∧ i.zero = some (.slice none 0 0) ∧ i.size = 1 ∧ i.bytes = 24 :=
  ⟨(Tryz.prog.info? 66).get (by kernel_rfl), by kernel_rfl, by kernel_rfl, by kernel_rfl, by kernel_rfl⟩
theorem run_mkbb (w : World) (d : Nat) (hd : d ≤ 1000000) : (Instr.makeSlice 63 (.int .i64 (d : Int)) (.int .i64 (d : Int))).run Tryz.prog w = .ok (.slice (some ⟨w.heap.size, 0, none⟩) d d) (w.alloc (.cells (madeCells #[.slice none 0 0] d) 66)) := by
  obtain ⟨i, hi, hz, hs, hy⟩ := infoBB
  have := run_make (P := Tryz.prog) w 63 66 i (.slice none 0 0) Tryz.underlying63 hi hz .i64 .i64 d d (by omega) (by omega) (by rw [hy]; omega) (by omega)
  rw [hs] at this
  simpa [Value.cells] using this
structure Wx (w W : World) (Ap : Option Addr) (kp cp a b : Nat) (Ae : Option Addr) (ke ce N d : Nat) (f : Rl2) : Prop where
  ab : AB W w.heap.size Ap kp cp (a : Int) (b : Int) Ae ke ce
  mw : Mw W (w.heap.size + 1) kp N d f
  bel : Below w.heap.size w W
  big : w.heap.size + 2 + d ≤ W.heap.size
theorem Wx.next {w W W' : World} {Ap : Option Addr} {kp cp a b : Nat} {Ae : Option Addr} {ke ce N d : Nat} {f : Rl2} (h : Wx w W Ap kp cp a b Ae ke ce N d f) (hb : Below W.heap.size W W') : Wx w W' Ap kp cp a b Ae ke ce N d f :=
  ⟨h.ab.below hb h.ab.lt, h.mw.same fun x _ hx => hb.block x (by have := h.big; omega), below_go h.bel hb, Nat.le_trans h.big hb.size⟩
theorem Wx.put {w W : World} {Ap : Option Addr} {kp cp a b : Nat} {Ae : Option Addr} {ke ce N d : Nat} {f : Rl2} (h : Wx w W Ap kp cp a b Ae ke ce N d f) (j : Nat) (hj : j < d) (q : Nat) (hq : q < kp) (x : Bool) : Wx w (W.setCell ⟨w.heap.size + 1 + 1 + j, q, none⟩ (.bool x)) Ap kp cp a b Ae ke ce N d (fun a b => if a = j ∧ b = q then x else f a b) :=
  ⟨by unfold AB; rw [heap_setCell_other W ⟨w.heap.size + 1 + 1 + j, q, none⟩ _ _ (by show w.heap.size ≠ w.heap.size + 1 + 1 + j; omega)]; exact h.ab, h.mw.put j hj q hq x, h.bel.setCell (p := ⟨w.heap.size + 1 + 1 + j, q, none⟩) (by show w.heap.size ≤ w.heap.size + 1 + 1 + j; omega) _, by rw [World.size_setCell]; exact h.big⟩
end Go.Proofs.YtpnllbojifnopaaGreatDoor
