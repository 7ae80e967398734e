/- By value: what a feed gives depends on the automaton's values alone; shifted numbers and times. -/
import Derived.Test.YtpnllbojifnopaaGreatDoorYRnM
namespace Go.Proofs.YtpnllbojifnopaaGreatDoor
open Go Go.RowKit Go.Maps Pk Rl
set_option maxRecDepth 20000
def phv (q : VQ) (l : Lg) : Bool := phold q.1 q.2.1 q.2.2 l.t l.E
theorem mapq_get (Ps : List Qu) (p : Nat) : vq (Ps.getD p qz) = (Ps.map vq).getD p (vq qz) := by
  rw [List.getD_eq_getElem?_getD, List.getD_eq_getElem?_getD, List.getElem?_map]
  cases Ps[p]? <;> rfl
theorem mape_get (Es : List Ed) (p : Nat) : ve (Es.getD p ed0') = (Es.map ve).getD p (ve ed0') := by
  rw [List.getD_eq_getElem?_getD, List.getD_eq_getElem?_getD, List.getElem?_map]
  cases Es[p]? <;> rfl
theorem sbt_congr {f g : Nat → Bool} (h : ∀ i, f i = g i) (n : Nat) : sbt f n = sbt g n := by rw [show f = g from funext h]
section
variable {Ps Ps' : List Qu} {Es Es' : List Ed}
theorem plc_congr (h : Ps.map vq = Ps'.map vq) (l : Lg) : plc_ Ps l = plc_ Ps' l := by
  have hl : Ps.length = Ps'.length := by have := congrArg List.length h; simpa using this
  unfold plc_
  rw [hl]
  refine sbt_congr (fun i => ?_) _
  show phv (vq (Ps.getD i qz)) l = phv (vq (Ps'.getD i qz)) l
  rw [mapq_get, mapq_get, h]
theorem ve_congr (h : Es.map ve = Es'.map ve) (i : Nat) : ve (Es.getD i ed0') = ve (Es'.getD i ed0') := by rw [mape_get, mape_get, h]
theorem elen_congr (h : Es.map ve = Es'.map ve) : Es.length = Es'.length := by have := congrArg List.length h; simpa using this
theorem brd_congr (h : Es.map ve = Es'.map ve) (l : Lg) : brd Es l = brd Es' l := by
  unfold brd
  rw [elen_congr h]
  refine sbt_congr (fun i => ?_) _
  show ((ve (Es.getD i ed0')).2.2.1 && phv (ve (Es.getD i ed0')).2.2.2 l) = ((ve (Es'.getD i ed0')).2.2.1 && phv (ve (Es'.getD i ed0')).2.2.2 l)
  rw [ve_congr h]
theorem frs_congr (h : Es.map ve = Es'.map ve) (p : Nat) : frs Es p = frs Es' p := by
  unfold frs
  rw [elen_congr h]
  refine sbt_congr (fun i => ?_) _
  show p.testBit (ve (Es.getD i ed0')).1 = p.testBit (ve (Es'.getD i ed0')).1
  rw [ve_congr h]
theorem onp_congr (h : Es.map ve = Es'.map ve) (x n : Nat) : onp Es x n = onp Es' x n := by
  induction n with
  | zero => rfl
  | succ n ih =>
    show (if _ then onp Es x n ||| 2 ^ (ve (Es.getD n ed0')).2.1 else onp Es x n) = (if _ then onp Es' x n ||| 2 ^ (ve (Es'.getD n ed0')).2.1 else onp Es' x n)
    rw [ih, ve_congr h]
theorem ont_congr (h : Es.map ve = Es'.map ve) (x : Nat) : ont Es x = ont Es' x := by unfold ont; rw [elen_congr h, onp_congr h]
theorem feR_congr (hP : Ps.map vq = Ps'.map vq) (hE : Es.map ve = Es'.map ve) (a win next : Nat) (R : List Ru) (l : Lg) : feR Ps Es a win next R l = feR Ps' Es' a win next R l := by
  unfold feR fR
  rw [plc_congr hP, brd_congr hE, frs_congr hE]
  congr 2
  funext r
  unfold gR
  rw [ont_congr hE, frs_congr hE]
theorem feM_congr (hP : Ps.map vq = Ps'.map vq) (hE : Es.map ve = Es'.map ve) (a b win next : Nat) (R : List Ru) (l : Lg) : feM Ps Es a b win next R l = feM Ps' Es' a b win next R l := by
  unfold feM fM
  rw [plc_congr hP]
  congr 2
  funext r
  unfold gM
  rw [ont_congr hE]
end
end Go.Proofs.YtpnllbojifnopaaGreatDoor
