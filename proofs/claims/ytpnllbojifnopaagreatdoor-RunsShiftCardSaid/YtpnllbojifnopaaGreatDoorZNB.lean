/- Contracts, joined: DmN, DmO1, DmO2, DmO3, DmO4, DmO. -/
import Derived.Test.YtpnllbojifnopaaGreatDoorZNA
import Derived.Test.YtpnllbojifnopaaGreatDoorMW
import Derived.Deep.RegionLaw
import Derived.Deep.RegionHeld3
namespace Go.Proofs.YtpnllbojifnopaaGreatDoor
open Go Go.RowKit Go.Maps Pk Rl
set_option maxRecDepth 20000
structure OB (w W : World) (nd : Nd) (A : Option Addr) (q C : Nat) (rA : Option Addr) (R : List Lg) : Prop where
  t : Trb W w.heap.size nd A q C
  x : Atn W (w.heap.size + 1) 0 nd
  lr : Lr W rA R
  tab : Tab W
  nok : Nok W nd
  bel : Below w.heap.size w W
theorem OB.next {w W W' : World} {nd : Nd} {A : Option Addr} {q C : Nat} {rA : Option Addr} {R : List Lg} (h : OB w W nd A q C rA R) (hb : Below W.heap.size W W') : OB w W' nd A q C rA R :=
  ⟨h.t.below hb h.t.lt, h.x.below hb h.x.lt, h.lr.ck (Ck.of_below hb), h.tab.ck (Ck.of_below hb), h.nok.ck (Ck.of_below hb), below_go h.bel hb⟩
theorem OB.start (w : World) (nd : Nd) (A : Option Addr) (q C : Nat) (rA : Option Addr) (R : List Lg) (hR : Lr w rA R) (hT : Tab w) (hN : Nok w nd) : OB w ((w.alloc (tobjT nd A q C)).alloc (nobj nd)) nd A q C rA R := by
  have b1 := bal w (tobjT nd A q C)
  have b2 := bal (w.alloc (tobjT nd A q C)) (nobj nd)
  have ck := (Ck.of_below b1).trans (Ck.of_below b2)
  have hx := Atn.alloc (w.alloc (tobjT nd A q C)) nd
  rw [World.size_alloc] at hx
  exact ⟨(Trb.start w nd A q C).below b2 (by simp), hx, hR.ck ck, hT.ck ck, hN.ck ck, below_go b1 b2⟩
theorem MtP.put {w : World} {B g c n N : Nat} {f : Rl2} (h : MtP w B (.slice (some ⟨g, 0, none⟩) n c) n N f) (i : Nat) (hi : i < n) {rb cap : Nat} (hc : w.cell? ⟨g, i, none⟩ = some (.slice (some ⟨rb, 0, none⟩) N cap)) (j : Nat) (hj : j < N) (x : Bool) :
    MtP (w.setCell ⟨rb, j, none⟩ (.bool x)) B (.slice (some ⟨g, 0, none⟩) n c) n N (fun a b => if a = i ∧ b = j then x else f a b) := by
  obtain ⟨g', rb', cap', e1, r1, _, _, _, _, _, r7⟩ := h.at i hi
  injection e1 with e1
  injection e1 with e1 _ _
  subst e1
  rw [hc] at r1
  injection r1 with r1
  injection r1 with r1 _ _
  injection r1 with r1
  injection r1 with r1 _ _
  subst r1
  exact r7 j x hj
abbrev GO (rA : Option Addr) (N rC : Nat) (f : List Nd → Rl2) (W : World) (n : Nd) (A : Option Addr) (m C : Nat) (p : List Nd) : Prop :=
  Calls Tryz.prog 23 #[tOfT n A m C, .slice rA N rC] W fun e w' => (∃ A' c', e = .returned (.slice A' N c') ∧ Mt2 w' W.heap.size (.slice A' N c') N (f p)) ∧ Below W.heap.size W w'
end Go.Proofs.YtpnllbojifnopaaGreatDoor
namespace Go.Proofs.YtpnllbojifnopaaGreatDoor
open Go Go.RowKit Go.Maps Pk Rl
set_option maxRecDepth 20000
end Go.Proofs.YtpnllbojifnopaaGreatDoor
namespace Go.Proofs.YtpnllbojifnopaaGreatDoor
open Go Go.RowKit Go.Maps Pk Rl
set_option maxRecDepth 20000
end Go.Proofs.YtpnllbojifnopaaGreatDoor
namespace Go.Proofs.YtpnllbojifnopaaGreatDoor
open Go Go.RowKit Go.Maps Pk Rl
set_option maxRecDepth 20000
end Go.Proofs.YtpnllbojifnopaaGreatDoor
namespace Go.Proofs.YtpnllbojifnopaaGreatDoor
open Go Go.RowKit Go.Maps Pk Rl
set_option maxRecDepth 20000
end Go.Proofs.YtpnllbojifnopaaGreatDoor
namespace Go.Proofs.YtpnllbojifnopaaGreatDoor
open Go Go.RowKit Go.Maps Pk Rl
set_option maxRecDepth 20000
end Go.Proofs.YtpnllbojifnopaaGreatDoor
