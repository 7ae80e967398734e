/- Contracts, joined: LbRefCmp, LbRefFloor, LbRefAgainst, VlRCmp. -/
import Derived.Test.YtpnllbojifnopaaGreatDoorMC
import Derived.Test.YtpnllbojifnopaaGreatDoorMB
import Derived.Deep.RegionHeld3
import Derived.Test.YtpnllbojifnopaaGreatDoorMH
import Derived.Deep.QuietTactic
import Derived.BigQuiet
namespace Go.Proofs.YtpnllbojifnopaaGreatDoor
open Go Go.RowKit Rl
set_option maxRecDepth 20000
def At3 (w : World) (n : Nat) (s : Bool) (E F : Nat) : Prop :=
  w.cell? ⟨n, 0, none⟩ = some (.bool s) ∧ w.cell? ⟨n, 1, none⟩ = some (.int .i64 (E : Int)) ∧ w.cell? ⟨n, 2, none⟩ = some (.int .u64 (F : Int))
theorem At3.below {w w' : World} {n : Nat} {s : Bool} {E F B : Nat} (h : At3 w n s E F) (hb : Below B w w') (hn : n < B) : At3 w' n s E F := by
  obtain ⟨a, b, c⟩ := h
  exact ⟨by rw [hb.cell (p := ⟨n, 0, none⟩) hn]; exact a, by rw [hb.cell (p := ⟨n, 1, none⟩) hn]; exact b, by rw [hb.cell (p := ⟨n, 2, none⟩) hn]; exact c⟩
abbrev cells3 (s : Bool) (E F : Nat) : Obj := .cells #[.bool s, .int .i64 (E : Int), .int .u64 (F : Int)] 222
theorem At3.alloc (w : World) (s : Bool) (E F : Nat) : At3 (w.alloc (cells3 s E F)) w.heap.size s E F := by
  refine ⟨?_, ?_, ?_⟩ <;> simp [go_sem]
def pc (E F : Nat) : Int := if E = 2047 then (if F = 0 then 3 else 4) else if E = 0 then (if F = 0 then 0 else 1) else 2
def po (s : Bool) (E F : Nat) (t : Bool) (G K : Nat) : Int :=
  if pn E F = true then (if pn G K = true then 0 else 1) else if pn G K = true then -1 else
  if s = t then (if s = true then c3 ((G * 4503599627370496 + K : Nat) : Int) ((E * 4503599627370496 + F : Nat) : Int) else c3 ((E * 4503599627370496 + F : Nat) : Int) ((G * 4503599627370496 + K : Nat) : Int))
  else if s = true then -1 else 1
structure Two (w W : World) (s : Bool) (E F : Nat) (t : Bool) (G K : Nat) : Prop where
  one : At3 W w.heap.size s E F
  two : At3 W (w.heap.size + 1) t G K
  bel : Below w.heap.size w W
  big : w.heap.size + 1 < W.heap.size
theorem Two.start (w : World) (s : Bool) (E F : Nat) (t : Bool) (G K : Nat) : Two w ((w.alloc (cells3 s E F)).alloc (cells3 t G K)) s E F t G K := by
  have h1 := At3.alloc w s E F
  have h2 := At3.alloc (w.alloc (cells3 s E F)) t G K
  have b2 := (Below.refl (w.alloc (cells3 s E F)).heap.size (w.alloc (cells3 s E F))).alloc (Nat.le_refl _) (cells3 t G K)
  refine ⟨h1.below b2 (by simp), ?_, ((Below.refl w.heap.size w).alloc (Nat.le_refl _) _).alloc (by simp) _, by simp⟩
  have : (w.alloc (cells3 s E F)).heap.size = w.heap.size + 1 := by simp
  rw [this] at h2; exact h2
theorem Two.next {w W W' : World} {s : Bool} {E F : Nat} {t : Bool} {G K : Nat} (h : Two w W s E F t G K) (hb : Below W.heap.size W W') : Two w W' s E F t G K :=
  ⟨h.one.below hb (by have := h.big; omega), h.two.below hb h.big, h.bel.trans (hb.mono h.bel.size), Nat.lt_of_lt_of_le h.big hb.size⟩
end Go.Proofs.YtpnllbojifnopaaGreatDoor
namespace Go.Proofs.YtpnllbojifnopaaGreatDoor
open Go Go.RowKit Rl
set_option maxRecDepth 20000
end Go.Proofs.YtpnllbojifnopaaGreatDoor
namespace Go.Proofs.YtpnllbojifnopaaGreatDoor
open Go Go.RowKit Rl
set_option maxRecDepth 20000
end Go.Proofs.YtpnllbojifnopaaGreatDoor
namespace Go.Proofs.YtpnllbojifnopaaGreatDoor
open Go Go.RowKit Rl
end Go.Proofs.YtpnllbojifnopaaGreatDoor
