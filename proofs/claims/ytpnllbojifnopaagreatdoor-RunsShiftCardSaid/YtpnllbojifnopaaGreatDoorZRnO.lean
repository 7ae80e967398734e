/- Two engines of one pattern, the one's numbers and times shifted. No program. -/
import Derived.Test.YtpnllbojifnopaaGreatDoorZRnN
namespace Go.Proofs.YtpnllbojifnopaaGreatDoor
open Go Go.RowKit Go.Maps Pk Rl
set_option maxRecDepth 20000
structure Sh (by_ later : Nat) (e e' : En) (R R' : List Ru) : Prop where
  fl : e'.fl = e.fl
  nx : e'.next = e.next + by_
  la : e'.last = e.last + later ∨ (e.last = 0 ∧ e'.last = 0)
  a : e'.a = e.a
  b : e'.b = e.b
  win : e'.win = e.win
  r : R' = R.map (shr by_ later)
section
variable {by_ later : Nat} {e e' : En} {R R' : List Ru} {l l' : Lg}
theorem Sh.code (h : Sh by_ later e e' R R') (hn : e.next < 1000000) (hb : by_ < 4294967296) (hl : later < 4294967296) (ha : l'.at_ = l.at_ + later) (h39 : l.at_ ≤ 549755813888) (hE : l'.E = l.E) : fcode e' l' = fcode e l := by
  unfold fcode
  have h1 := h.nx
  rw [h.fl, hE, if_neg (show ¬ e'.next = 1099511627776 by omega), if_neg (show ¬ e.next = 1099511627776 by omega)]
  have hq : (l'.at_ < e'.last ∨ 1099511627776 < l'.at_ ∨ emay l.E = false) ↔ (l.at_ < e.last ∨ 1099511627776 < l.at_ ∨ emay l.E = false) := by
    have h2 := h.la
    constructor
    · rintro (x | x | x)
      · exact Or.inl (by omega)
      · omega
      · exact Or.inr (Or.inr x)
    · rintro (x | x | x)
      · exact Or.inl (by omega)
      · omega
      · exact Or.inr (Or.inr x)
  by_cases hc : l.at_ < e.last ∨ 1099511627776 < l.at_ ∨ emay l.E = false
  · rw [if_pos hc, if_pos (hq.2 hc)]
  · rw [if_neg hc, if_neg (fun x => hc (hq.1 x))]
theorem Sh.runs (h : Sh by_ later e e' R R') {Ps Ps' : List Qu} {Es Es' : List Ed} (hP : Ps.map vq = Ps'.map vq) (hEs : Es.map ve = Es'.map ve) (ht : l'.t = l.t) (hE : l'.E = l.E) (ha : l'.at_ = l.at_ + later) :
    feR Ps' Es' e'.a e'.win e'.next R' l' = (feR Ps Es e.a e.win e.next R l).map (shr by_ later) := by
  rw [h.a, h.win, h.nx, h.r, ← feR_congr hP hEs, feR_sh _ _ _ _ _ _ _ _ l l' ht hE ha]
theorem Sh.ms (h : Sh by_ later e e' R R') {Ps Ps' : List Qu} {Es Es' : List Ed} (hP : Ps.map vq = Ps'.map vq) (hEs : Es.map ve = Es'.map ve) (ht : l'.t = l.t) (hE : l'.E = l.E) (ha : l'.at_ = l.at_ + later) :
    feM Ps' Es' e'.a e'.b e'.win e'.next R' l' = (feM Ps Es e.a e.b e.win e.next R l).map (shm by_) := by
  rw [h.a, h.b, h.win, h.nx, h.r, ← feM_congr hP hEs, feM_sh _ _ _ _ _ _ _ _ _ l l' ht hE ha]
theorem Sh.hz (h : Sh by_ later e e' R R') : hzn e R + by_ = hzn e' R' := by
  unfold hzn
  rw [h.r, h.nx, List.length_map]
  split
  · rfl
  · rename_i h0
    rw [List.getD_eq_getElem?_getD, List.getD_eq_getElem?_getD, List.getElem?_map, List.getElem?_eq_getElem (by omega)]
    rfl
end
end Go.Proofs.YtpnllbojifnopaaGreatDoor
