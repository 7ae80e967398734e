/- Contracts, joined: WiQ, WiR, WiS. -/
import Derived.Test.YtpnllbojifnopaaGreatDoorYWJ
import Derived.Test.YtpnllbojifnopaaGreatDoorYB4
import Derived.Test.YtpnllbojifnopaaGreatDoorMY
namespace Go.Proofs.YtpnllbojifnopaaGreatDoor
open Go Go.RowKit Pk Rl
set_option maxRecDepth 20000
section
variable {w W W' : World} {k : Nat} {L : List Nd} {nd : Nd} {pl g7 g9 : Nat} {A : Option Addr} {M C : Nat} {Ap : Option Addr} {kp cp a b : Nat} {Ae : Option Addr} {ke ce : Nat} {Es : List Ed}
end
end Go.Proofs.YtpnllbojifnopaaGreatDoor
namespace Go.Proofs.YtpnllbojifnopaaGreatDoor
open Go Go.RowKit Pk Rl
set_option maxRecDepth 20000
theorem sbt_step (b : Nat → Bool) (i : Nat) : sbt b (i + 1) = sbt b i + if b i = true then 2 ^ i else 0 := rfl
theorem sbt_lt32 (b : Nat → Bool) (i : Nat) (h : i ≤ 32) : sbt b i < 4294967296 := Nat.lt_of_lt_of_le (sbt_lt b i) (Nat.pow_le_pow_right (by omega) h)
end Go.Proofs.YtpnllbojifnopaaGreatDoor
namespace Go.Proofs.YtpnllbojifnopaaGreatDoor
open Go Go.RowKit Pk Rl
set_option maxRecDepth 20000
abbrev ed0' : Ed := ⟨0, 0, false, qz⟩
def Qrow (w : World) (A : Option Addr) (D : List Qu) : Prop := ∀ i, i < D.length → ∃ g, A = some ⟨g, 0, none⟩ ∧ w.cell? ⟨g, i * 3, none⟩ = some (.bool (D.getD i qz).x) ∧ w.cell? ⟨g, i * 3 + 1, none⟩ = some (.int .u8 (D.getD i qz).t) ∧ w.cell? ⟨g, i * 3 + 2, none⟩ = some (.slice (D.getD i qz).a (D.getD i qz).n (D.getD i qz).c)
def Erow (w : World) (A : Option Addr) (D : List Ed) : Prop := ∀ i, i < D.length → ∃ g, A = some ⟨g, 0, none⟩ ∧ w.cell? ⟨g, i * 6, none⟩ = some (.int .u8 ((D.getD i ed0').f : Int)) ∧ w.cell? ⟨g, i * 6 + 1, none⟩ = some (.int .u8 ((D.getD i ed0').t : Int)) ∧ w.cell? ⟨g, i * 6 + 2, none⟩ = some (.bool (D.getD i ed0').y) ∧ w.cell? ⟨g, i * 6 + 3, none⟩ = some (.bool (D.getD i ed0').g.x) ∧ w.cell? ⟨g, i * 6 + 4, none⟩ = some (.int .u8 (D.getD i ed0').g.t) ∧ w.cell? ⟨g, i * 6 + 5, none⟩ = some (.slice (D.getD i ed0').g.a (D.getD i ed0').g.n (D.getD i ed0').g.c)
theorem pcls_get (X : List Qu) (i : Nat) (hi : i < X.length) (j : Nat) (hj : j < 3) : (X.flatMap pcl)[i * 3 + j]? = (pcl (X.getD i qz))[j]? := by
  induction X generalizing i with
  | nil => simp at hi
  | cons v X ih =>
    rw [List.flatMap_cons]
    have h4 : (pcl v).length = 3 := rfl
    rcases i with _ | i
    · rw [List.getElem?_append_left (by omega)]; simp
    · rw [List.getElem?_append_right (by omega), h4, show (i + 1) * 3 + j - 3 = i * 3 + j by omega, ih i (by simpa using hi)]; simp
theorem ecls_getD (X : List Ed) (i : Nat) (hi : i < X.length) (j : Nat) (hj : j < 6) : (X.flatMap ecl)[i * 6 + j]? = (ecl (X.getD i ed0'))[j]? := by
  induction X generalizing i with
  | nil => simp at hi
  | cons v X ih =>
    rw [List.flatMap_cons]
    have h4 : (ecl v).length = 6 := rfl
    rcases i with _ | i
    · rw [List.getElem?_append_left (by omega)]; simp
    · rw [List.getElem?_append_right (by omega), h4, show (i + 1) * 6 + j - 6 = i * 6 + j by omega, ih i (by simpa using hi)]; simp
theorem OwnQ'.row {w : World} {B n c : Nat} {A : Option Addr} {D : List Qu} (h : OwnQ' w B (.slice A n c) D) : Qrow w A D := by
  intro i hi
  rcases h.2 with ⟨_, h0⟩ | ⟨g, cap, cur, e, _⟩
  · omega
  · injection e with e1 _ _
    have key : ∀ j u, j < 3 → (pcl (D.getD i qz))[j]? = some u → w.cell? ⟨g, i * 3 + j, none⟩ = some u := fun j u hj hu => by
      have := World.ownsRow.cells h (g := g) (by rw [e1]; rfl) (i * 3 + j) u (by rw [pcls_get D i hi j hj]; exact hu)
      rwa [add_plain, Nat.zero_add] at this
    exact ⟨g, e1, key 0 _ (by omega) rfl, key 1 _ (by omega) rfl, key 2 _ (by omega) rfl⟩
theorem OwnE.row {w : World} {B n c : Nat} {A : Option Addr} {D : List Ed} (h : OwnE w B (.slice A n c) D) : Erow w A D := by
  intro i hi
  rcases h.2 with ⟨_, h0⟩ | ⟨g, cap, cur, e, _⟩
  · omega
  · injection e with e1 _ _
    have key : ∀ j u, j < 6 → (ecl (D.getD i ed0'))[j]? = some u → w.cell? ⟨g, i * 6 + j, none⟩ = some u := fun j u hj hu => by
      have := World.ownsRow.cells h (g := g) (by rw [e1]; rfl) (i * 6 + j) u (by rw [ecls_getD D i hi j hj]; exact hu)
      rwa [add_plain, Nat.zero_add] at this
    exact ⟨g, e1, key 0 _ (by omega) rfl, key 1 _ (by omega) rfl, key 2 _ (by omega) rfl, key 3 _ (by omega) rfl, key 4 _ (by omega) rfl, key 5 _ (by omega) rfl⟩
theorem Qrow.below {w w' : World} {A : Option Addr} {D : List Qu} (h : Qrow w A D) (hb : Below w.heap.size w w') : Qrow w' A D := fun i hi => by
  obtain ⟨g, e, h0, h1, h2⟩ := h i hi
  have k : ∀ {j v}, w.cell? ⟨g, j, none⟩ = some v → w'.cell? ⟨g, j, none⟩ = some v := fun hc => (hb.cell (World.block_lt_of_cell? _ _ hc)).trans hc
  exact ⟨g, e, k h0, k h1, k h2⟩
theorem Erow.below {w w' : World} {A : Option Addr} {D : List Ed} (h : Erow w A D) (hb : Below w.heap.size w w') : Erow w' A D := fun i hi => by
  obtain ⟨g, e, h0, h1, h2, h3, h4, h5⟩ := h i hi
  have k : ∀ {j v}, w.cell? ⟨g, j, none⟩ = some v → w'.cell? ⟨g, j, none⟩ = some v := fun hc => (hb.cell (World.block_lt_of_cell? _ _ hc)).trans hc
  exact ⟨g, e, k h0, k h1, k h2, k h3, k h4, k h5⟩
end Go.Proofs.YtpnllbojifnopaaGreatDoor
