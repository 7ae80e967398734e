/- Contracts, joined: DnW, DnAn, DnWh, DnAm, DnRw, DnAo, DnAx. -/
import Derived.Test.YtpnllbojifnopaaGreatDoorYMS
import Derived.Test.YtpnllbojifnopaaGreatDoorMY
import Derived.Test.YtpnllbojifnopaaGreatDoorMT
namespace Go.Proofs.YtpnllbojifnopaaGreatDoor
open Go Go.RowKit Go.Maps Pk Rl
set_option maxRecDepth 20000
end Go.Proofs.YtpnllbojifnopaaGreatDoor
namespace Go.Proofs.YtpnllbojifnopaaGreatDoor
open Go Go.RowKit Go.Maps Pk Rl
set_option maxRecDepth 20000
theorem RowN.free {w : World} {B : Nat} {A : Option Addr} {n c : Nat} {x : Nd} {D : List Nd} (h : RowN w B (.slice A n c) (x :: D)) : ∃ g, A = some ⟨g, 0, none⟩ ∧ B ≤ g ∧ g < w.heap.size ∧ (∀ j, w.frozen? ⟨g, j, none⟩ = false) ∧ n = (x :: D).length ∧ n ≤ c ∧ Nds w A (x :: D) ∧ w.cell? ⟨g, 6 + 4, none⟩ = some (.int .i64 x.s) ∧ ∃ cur, w.heap[g]? = some (.cells cur 57 (0, 0)) := by
  obtain ⟨A', c', e, hn, hc⟩ := h.form
  injection e with e1 e2 e3
  subst e1 e2 e3
  rcases h.2 with ⟨e, _⟩ | ⟨g, cap, cur, e, hB, hh, _⟩
  · injection e with e1 e2 e3
    cases e2
  · injection e with e1 e2 e3
    subst e1
    obtain ⟨b, off, e4, _, _, _, _, _, _, _, _, _, _, h6⟩ := hn 0 (by simp)
    injection e4 with e4
    injection e4 with e5 e6 _
    subst e5 e6
    exact ⟨g, rfl, hB, (Array.getElem?_eq_some_iff.1 hh).1, fun j => by simp [World.frozen?, hh], rfl, hc, hn, by simpa using h6, cur, hh⟩
theorem Nds.size {w : World} {g : Nat} {x : Nd} {D : List Nd} (h : Nds w (some ⟨g, 0, none⟩) (x :: D)) (s : Int) : Nds (w.setCell ⟨g, 10, none⟩ (.int .i64 s)) (some ⟨g, 0, none⟩) (⟨x.k, x.p, x.y, x.g, x.lo, x.hi, s⟩ :: D) := by
  intro i hi
  obtain ⟨b, off, e, h0, h1, h2, h3, h4, h5, h6, h7, h8, h9, h10⟩ := h i (by simpa using hi)
  injection e with e
  injection e with e1 e2 _
  subst e1 e2
  have ne : ∀ j v, j ≠ 10 → w.cell? ⟨g, j, none⟩ = some v → (w.setCell ⟨g, 10, none⟩ (.int .i64 s)).cell? ⟨g, j, none⟩ = some v := fun j v hj hv => by
    rw [← hv]; apply World.cell?_setCell_other; intro e; injection e with _ e2 _; exact hj e2.symm
  refine ⟨g, 0, rfl, ?_⟩
  rcases i with _ | i
  · simp only [Nat.zero_mul, Nat.add_zero, Nat.zero_add, List.getD_cons_zero] at *
    exact ⟨ne _ _ (by omega) h0, ne _ _ (by omega) h1, ne _ _ (by omega) h2, ne _ _ (by omega) h3, ne _ _ (by omega) h4, ne _ _ (by omega) h5, ne _ _ (by omega) h6, ne _ _ (by omega) h7, ne _ _ (by omega) h8, ne _ _ (by omega) h9, (by apply World.cell?_setCell_same; exact h10)⟩
  · simp only [List.getD_cons_succ] at *
    exact ⟨ne _ _ (by omega) h0, ne _ _ (by omega) h1, ne _ _ (by omega) h2, ne _ _ (by omega) h3, ne _ _ (by omega) h4, ne _ _ (by omega) h5, ne _ _ (by omega) h6, ne _ _ (by omega) h7, ne _ _ (by omega) h8, ne _ _ (by omega) h9, ne _ _ (by omega) h10⟩
end Go.Proofs.YtpnllbojifnopaaGreatDoor
namespace Go.Proofs.YtpnllbojifnopaaGreatDoor
open Go Go.RowKit Go.Maps Pk Rl
set_option maxRecDepth 20000
end Go.Proofs.YtpnllbojifnopaaGreatDoor
namespace Go.Proofs.YtpnllbojifnopaaGreatDoor
open Go Go.RowKit Go.Maps Pk Rl
set_option maxRecDepth 20000
end Go.Proofs.YtpnllbojifnopaaGreatDoor
namespace Go.Proofs.YtpnllbojifnopaaGreatDoor
open Go Go.RowKit Go.Maps Pk Rl
set_option maxRecDepth 20000
theorem Hps.below {w w' : World} {A : Option Addr} {H : List Hp} (h : Hps w A H) (hb : Below w.heap.size w w') : Hps w' A H := ⟨fun i hi => by
  obtain ⟨b, off, e, h0, h1, h2⟩ := h.row i hi
  have ck := Ck.of_below hb
  exact ⟨b, off, e, ck _ _ _ h0, ck _ _ _ h1, ck _ _ _ h2⟩, fun x hx => (h.ok x hx).below hb⟩
end Go.Proofs.YtpnllbojifnopaaGreatDoor
namespace Go.Proofs.YtpnllbojifnopaaGreatDoor
open Go Go.RowKit Go.Maps Pk Rl
set_option maxRecDepth 20000
theorem PtB.set1 {w : World} {g : Nat} {a : Option Addr} {n c : Nat} {win : Int} (h : PtB w g a n c win) (win' : Int) : PtB (w.setCell ⟨g, 1, none⟩ (.int .u64 win')) g a n c win' := by
  unfold PtB
  rw [heap_setCell_same w g 1 _ _ _ h]
  rfl
end Go.Proofs.YtpnllbojifnopaaGreatDoor
namespace Go.Proofs.YtpnllbojifnopaaGreatDoor
open Go Go.RowKit Go.Maps Pk Rl
set_option maxRecDepth 100000
end Go.Proofs.YtpnllbojifnopaaGreatDoor
