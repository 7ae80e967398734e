/- By value: what a feed gives depends on the automaton's values alone; shifted numbers and times. -/
import Derived.Test.YtpnllbojifnopaaGreatDoorZRnM
namespace Go.Proofs.YtpnllbojifnopaaGreatDoor
open Go Go.RowKit Go.Maps Pk Rl
set_option maxRecDepth 20000
def phv (q : VQ) (l : Lg) : Bool := phold q.1 q.2.1 q.2.2 l.t l.E
theorem mapq_get (Ps : List Qu) (p : Nat) : vq (Ps.getD p qz) = (Ps.map vq).getD p (vq qz) := by
  rw [List.getD_eq_getElem?_getD, List.getD_eq_getElem?_getD, List.getElem?_map]
  cases Ps[p]? <;> rfl
theorem mape_get (Es : List Ed) (p : Nat) : ve (Es.getD p ed0') = (Es.map ve).getD p (ve ed0') := by
  rw [List.getD_eq_getElem?_getD, List.getD_eq_getElem?_getD, List.getElem?_map]
  cases Es[p]? <;> rfl
theorem sbt_congr {f g : Nat → Bool} (h : ∀ i, f i = g i) (n : Nat) : sbt f n = sbt g n := by rw [show f = g from funext h]
section
variable {Ps Ps' : List Qu} {Es Es' : List Ed}
theorem plc_congr (h : Ps.map vq = Ps'.map vq) (l : Lg) : plc_ Ps l = plc_ Ps' l := by
  have hl : Ps.length = Ps'.length := by have := congrArg List.length h; simpa using this
  unfold plc_
  rw [hl]
  refine sbt_congr (fun i => ?_) _
  show phv (vq (Ps.getD i qz)) l = phv (vq (Ps'.getD i qz)) l
  rw [mapq_get, mapq_get, h]
theorem ve_congr (h : Es.map ve = Es'.map ve) (i : Nat) : ve (Es.getD i ed0') = ve (Es'.getD i ed0') := by rw [mape_get, mape_get, h]
theorem elen_congr (h : Es.map ve = Es'.map ve) : Es.length = Es'.length := by have := congrArg List.length h; simpa using this
theorem brd_congr (h : Es.map ve = Es'.map ve) (l : Lg) : brd Es l = brd Es' l := by
  unfold brd
  rw [elen_congr h]
  refine sbt_congr (fun i => ?_) _
  show ((ve (Es.getD i ed0')).2.2.1 && phv (ve (Es.getD i ed0')).2.2.2 l) = ((ve (Es'.getD i ed0')).2.2.1 && phv (ve (Es'.getD i ed0')).2.2.2 l)
  rw [ve_congr h]
theorem frs_congr (h : Es.map ve = Es'.map ve) (p : Nat) : frs Es p = frs Es' p := by
  unfold frs
  rw [elen_congr h]
  refine sbt_congr (fun i => ?_) _
  show p.testBit (ve (Es.getD i ed0')).1 = p.testBit (ve (Es'.getD i ed0')).1
  rw [ve_congr h]
theorem onp_congr (h : Es.map ve = Es'.map ve) (x n : Nat) : onp Es x n = onp Es' x n := by
  induction n with
  | zero => rfl
  | succ n ih =>
    show (if _ then onp Es x n ||| 2 ^ (ve (Es.getD n ed0')).2.1 else onp Es x n) = (if _ then onp Es' x n ||| 2 ^ (ve (Es'.getD n ed0')).2.1 else onp Es' x n)
    rw [ih, ve_congr h]
theorem ont_congr (h : Es.map ve = Es'.map ve) (x : Nat) : ont Es x = ont Es' x := by unfold ont; rw [elen_congr h, onp_congr h]
theorem feR_congr (hP : Ps.map vq = Ps'.map vq) (hE : Es.map ve = Es'.map ve) (a win next : Nat) (R : List Ru) (l : Lg) : feR Ps Es a win next R l = feR Ps' Es' a win next R l := by
  unfold feR fR
  rw [plc_congr hP, brd_congr hE, frs_congr hE]
  congr 2
  funext r
  unfold gR
  rw [ont_congr hE, frs_congr hE]
theorem feM_congr (hP : Ps.map vq = Ps'.map vq) (hE : Es.map ve = Es'.map ve) (a b win next : Nat) (R : List Ru) (l : Lg) : feM Ps Es a b win next R l = feM Ps' Es' a b win next R l := by
  unfold feM fM
  rw [plc_congr hP]
  congr 2
  funext r
  unfold gM
  rw [ont_congr hE]
end
def shr (by_ later : Nat) (r : Ru) : Ru := ⟨r.s + by_, r.t + later, r.x⟩
def shm (by_ : Nat) (m : Mt) : Mt := (m.1 + by_, m.2 + by_)
theorem kept_sh (x by_ later : Nat) (r : Ru) : kept x (shr by_ later r) = (kept x r).map (shr by_ later) := by unfold kept; split <;> rfl
theorem hit_sh (q b s n by_ : Nat) : hit q b (s + by_) (n + by_) = (hit q b s n).map (shm by_) := by unfold hit; split <;> rfl
theorem flat_sh {f : Ru → List Ru} {g : Ru → List Ru} {h : Ru → Ru} (H : ∀ r, g (h r) = (f r).map h) (R : List Ru) : (R.map h).flatMap g = (R.flatMap f).map h := by
  induction R with
  | nil => rfl
  | cons r R ih => rw [List.map_cons, List.flatMap_cons, List.flatMap_cons, List.map_append, ih, H]
theorem flat_sm {f : Ru → List Mt} {g : Ru → List Mt} {h : Ru → Ru} {k : Mt → Mt} (H : ∀ r, g (h r) = (f r).map k) (R : List Ru) : (R.map h).flatMap g = (R.flatMap f).map k := by
  induction R with
  | nil => rfl
  | cons r R ih => rw [List.map_cons, List.flatMap_cons, List.flatMap_cons, List.map_append, ih, H]
theorem feR_sh (Ps : List Qu) (Es : List Ed) (a win next by_ later : Nat) (R : List Ru) (l l' : Lg) (ht : l'.t = l.t) (hE : l'.E = l.E) (ha : l'.at_ = l.at_ + later) : feR Ps Es a win (next + by_) (R.map (shr by_ later)) l' = (feR Ps Es a win next R l).map (shr by_ later) := by
  have hp : plc_ Ps l' = plc_ Ps l := by unfold plc_; exact sbt_congr (fun i => by unfold hpl; rw [ht, hE]) _
  have hb : brd Es l' = brd Es l := by unfold brd; exact sbt_congr (fun i => by unfold hgd; rw [ht, hE]) _
  unfold feR fR
  rw [hp, hb, ha, List.map_append, List.take_length, List.take_length, flat_sh (f := gR Es (plc_ Ps l) (brd Es l) win l.at_) (h := shr by_ later) (fun r => ?_)]
  · congr 1
    exact kept_sh _ by_ later ⟨next, l.at_, 0⟩
  · unfold gR
    rw [show l.at_ + later - (shr by_ later r).t = l.at_ - r.t from Nat.add_sub_add_right _ _ _]
    split
    · rfl
    · exact kept_sh _ by_ later r
theorem feM_sh (Ps : List Qu) (Es : List Ed) (a b win next by_ later : Nat) (R : List Ru) (l l' : Lg) (ht : l'.t = l.t) (hE : l'.E = l.E) (ha : l'.at_ = l.at_ + later) : feM Ps Es a b win (next + by_) (R.map (shr by_ later)) l' = (feM Ps Es a b win next R l).map (shm by_) := by
  have hp : plc_ Ps l' = plc_ Ps l := by unfold plc_; exact sbt_congr (fun i => by unfold hpl; rw [ht, hE]) _
  unfold feM fM
  rw [hp, ha, List.map_append, List.take_length, List.take_length, flat_sm (f := gM Es (plc_ Ps l) b win l.at_ next) (h := shr by_ later) (k := shm by_) (fun r => ?_)]
  · congr 1
    exact hit_sh _ _ _ _ _
  · unfold gM
    rw [show l.at_ + later - (shr by_ later r).t = l.at_ - r.t from Nat.add_sub_add_right _ _ _]
    split
    · rfl
    · exact hit_sh _ _ r.s next by_
end Go.Proofs.YtpnllbojifnopaaGreatDoor
