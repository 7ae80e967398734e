/- The chapter's example, by value. -/
import Derived.Test.YtpnllbojifnopaaGreatDoorYRnG
namespace Go.Proofs.YtpnllbojifnopaaGreatDoor
open Go Go.RowKit Go.Maps Pk Rl
set_option maxRecDepth 20000
theorem wed_two : wed 33 two (cnt 33 two) = [(0, 1, false, vq qz)] := by
  have T := mp_top mp_two10
  have hl := wed_len T
  rw [au_two] at hl
  have hm : ((0, 1, false, vq qz) : EV) ∈ wed 33 two (cnt 33 two) := by
    rw [wed_mem]
    have hw := we_au 33 two T.fm T.fr 0 (by have := T.cn; omega) ((0, 1, false, vq qz) : EV)
    rw [au_two] at hw
    have hc : cnt 33 two = 2 := by
      have := (au_cn 33 two T.fm T.fr).p 0
      rw [au_two] at this
      simpa using this.symm
    exact ⟨by rw [hc]; decide, by rw [hc]; decide, hw.1 (by simp)⟩
  obtain ⟨x, hx⟩ := List.length_eq_one_iff.1 (show (wed 33 two (cnt 33 two)).length = 1 by simpa using hl)
  rw [hx] at hm ⊢
  rw [List.mem_singleton] at hm
  rw [← hm]
theorem cov_two : cov two 10 = ⟨0, 1, 2, [(false, 1, []), (false, 2, [])], [(0, 1, false, vq qz)]⟩ := by
  unfold cov
  rw [if_neg (by rw [mp_two10]; decide), wed_two, if_neg (by decide), au_two]
theorem two_rows {Ps : List Qu} {Es : List Ed} (hP : Ps.map vq = [(false, 1, []), (false, 2, [])]) (hE : Es.map ve = [(0, 1, false, vq qz)]) :
    (∃ a1 n1 c1 a2 n2 c2, Ps = [⟨false, 1, a1, n1, c1, []⟩, ⟨false, 2, a2, n2, c2, []⟩]) ∧ ∃ g, Es = [⟨0, 1, false, g⟩] := by
  constructor
  · match Ps, hP with
    | [⟨x1, t1, a1, n1, c1, L1⟩, ⟨x2, t2, a2, n2, c2, L2⟩], h =>
      simp only [List.map_cons, List.map_nil, vq, List.cons.injEq, Prod.mk.injEq, and_true] at h
      obtain ⟨⟨rfl, rfl, rfl⟩, rfl, rfl, rfl⟩ := h
      exact ⟨a1, n1, c1, a2, n2, c2, rfl⟩
  · obtain ⟨⟨f, t, y, g⟩, rfl⟩ := List.length_eq_one_iff.1 (show Es.length = 1 by have := congrArg List.length hE; simpa using this)
    simp only [List.map_cons, List.map_nil, ve, List.cons.injEq, Prod.mk.injEq, and_true] at hE
    obtain ⟨rfl, rfl, rfl, _⟩ := hE
    exact ⟨g, rfl⟩
abbrev lt_ (at_ : Nat) (t : Int) : Lg := ⟨0, 0, at_, t, none, 0, 0, []⟩
theorem ph11 : phold false 1 [] 1 [] = true := by decide
theorem ph12 : phold false 1 [] 2 [] = false := by decide
theorem ph21 : phold false 2 [] 1 [] = false := by decide
theorem ph22 : phold false 2 [] 2 [] = true := by decide
section
variable (at_ : Nat) (a1 : Option Addr) (n1 c1 : Nat) (a2 : Option Addr) (n2 c2 : Nat) (g : Qu)
theorem two_pl1 : plc_ [⟨false, 1, a1, n1, c1, []⟩, ⟨false, 2, a2, n2, c2, []⟩] (lt_ at_ 1) = 1 := by
  simp [plc_, hpl, sbt, ph11, ph21]
theorem two_pl2 : plc_ [⟨false, 1, a1, n1, c1, []⟩, ⟨false, 2, a2, n2, c2, []⟩] (lt_ at_ 2) = 2 := by
  simp [plc_, hpl, sbt, ph12, ph22]
theorem two_br (t : Int) : brd [⟨0, 1, false, g⟩] (lt_ at_ t) = 0 := by simp [brd, hgd, sbt]
theorem two_fr0 : frs [⟨0, 1, false, g⟩] 0 = 0 := by simp [frs, sbt]
theorem two_fr1 : frs [⟨0, 1, false, g⟩] 1 = 1 := by simp [frs, sbt]
theorem two_fr2 : frs [⟨0, 1, false, g⟩] 2 = 0 := by simp [frs, sbt]
theorem two_on1 : ont [⟨0, 1, false, g⟩] 1 = 2 := by simp [ont, onp]
end
theorem two_fed1 {Ps : List Qu} {Es : List Ed} (hP : Ps.map vq = [(false, 1, []), (false, 2, [])]) (hE : Es.map ve = [(0, 1, false, vq qz)]) : feR Ps Es 1 10 0 [] (lt_ 0 1) = [⟨0, 0, 1⟩] ∧ feM Ps Es 1 2 10 0 [] (lt_ 0 1) = [] := by
  obtain ⟨⟨a1, n1, c1, a2, n2, c2, rfl⟩, g, rfl⟩ := two_rows hP hE
  unfold feR feM
  simp only [two_pl1, two_br]
  simp [fR, fM, two_fr1, kept, hit]
theorem two_fed2 {Ps : List Qu} {Es : List Ed} (hP : Ps.map vq = [(false, 1, []), (false, 2, [])]) (hE : Es.map ve = [(0, 1, false, vq qz)]) : feR Ps Es 1 10 1 [⟨0, 0, 1⟩] (lt_ 1 1) = [⟨0, 0, 1⟩, ⟨1, 1, 1⟩] ∧ feM Ps Es 1 2 10 1 [⟨0, 0, 1⟩] (lt_ 1 1) = [] := by
  obtain ⟨⟨a1, n1, c1, a2, n2, c2, rfl⟩, g, rfl⟩ := two_rows hP hE
  unfold feR feM
  simp only [two_pl1, two_br]
  simp [fR, fM, gR, gM, two_fr0, two_fr1, two_on1, kept, hit]
theorem two_fed3 {Ps : List Qu} {Es : List Ed} (hP : Ps.map vq = [(false, 1, []), (false, 2, [])]) (hE : Es.map ve = [(0, 1, false, vq qz)]) : (feR Ps Es 1 10 2 [⟨0, 0, 1⟩, ⟨1, 1, 1⟩] (lt_ 2 2)).length = 2 ∧ (feM Ps Es 1 2 10 2 [⟨0, 0, 1⟩, ⟨1, 1, 1⟩] (lt_ 2 2)).length = 2 := by
  obtain ⟨⟨a1, n1, c1, a2, n2, c2, rfl⟩, g, rfl⟩ := two_rows hP hE
  unfold feR feM
  simp only [two_pl2, two_br]
  simp [fR, fM, gR, gM, two_fr0, two_fr2, two_on1, kept, hit]
end Go.Proofs.YtpnllbojifnopaaGreatDoor
