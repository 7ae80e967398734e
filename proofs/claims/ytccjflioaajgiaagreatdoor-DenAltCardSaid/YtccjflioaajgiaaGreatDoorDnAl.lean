/- An alternative, and its parts: by values. -/
import Derived.Test.YtccjflioaajgiaaGreatDoorDnLs
namespace Go.Proofs.YtccjflioaajgiaaGreatDoor
open Go Go.RowKit Go.Maps Pk Rl
set_option maxRecDepth 20000

theorem mp_frn {L : List Nd} {W : Int} (h : mp L W = 0) : frn L = L ∧ L ≠ [] ∧ L.length < 33 := by
  obtain ⟨h1, h2⟩ := mp_zero h
  refine ⟨?_, h2, h1⟩
  unfold mp at h
  rw [if_neg (by omega)] at h
  by_cases c2 : (frn L).length < L.length ∨ fmd 33 L = false
  · rw [if_pos c2] at h; omega
  rw [not_or] at c2
  have hl := frn_len L
  have e : (frn L).length = L.length := by omega
  have hne : frn L ≠ [] := fun e0 => h2 (List.eq_nil_of_length_eq_zero (by rw [← e, e0]; rfl))
  rw [frn_take L hne, e, List.take_of_length_le (Nat.le_refl _)]
abbrev alx (s : Int) : Nd := ⟨3, qz, false, qz, 0, 0, s⟩
theorem alt_pts {p q : List Nd} (hp : frn p = p) (hq : frn q = q) (p0 : p ≠ []) (q0 : q ≠ []) : pts (alx ((p ++ q).length : Int) :: (p ++ q)) = [p, q] := by
  have e1 : frn (alx ((p ++ q).length : Int) :: (p ++ q)) = alx ((p ++ q).length : Int) :: (p ++ q) := by
    rw [frn_cons, if_neg (by show ¬ (((p ++ q).length : Int) < 0 ∨ ((p ++ q).length : Int) < ((p ++ q).length : Int)); omega)]
    show _ :: (p ++ q).take ((p ++ q).length : Int).toNat = _
    rw [Int.toNat_natCast, List.take_of_length_le (Nat.le_refl _)]
  have e2 : frn (p ++ q) = p := by
    have ht : (p ++ q).take p.length = p := by simp
    rw [frn_pre (p ++ q) p.length (by rw [ht, hp]; exact p0), ht, hp]
  have e3 : spl q = some [q] := by
    rw [spl_cons q q0, hq, if_neg q0, List.drop_of_length_le (Nat.le_refl _), spl_nil]; rfl
  have e4 : spl (p ++ q) = some [p, q] := by
    rw [spl_cons (p ++ q) (by simp [p0]), e2, if_neg p0]
    have hd : (p ++ q).drop p.length = q := by simp
    rw [hd, e3]; rfl
  unfold pts
  rw [e1, List.tail_cons, e4]; rfl
theorem rel_alt {h : Hq} {N : Nat} {p q : List Nd} {W : Int} (hp : mp p W = 0) (hq : mp q W = 0) {i j : Nat} : rel h N 60 (alx ((p ++ q).length : Int) :: (p ++ q)) i j = (rel h N 60 p i j || rel h N 60 q i j) := by
  obtain ⟨p1, p2, p3⟩ := mp_frn hp
  obtain ⟨q1, q2, q3⟩ := mp_frn hq
  rw [rel_succ, if_neg (by show ¬ (3 : Int) = 2; omega), if_pos (by rfl), alt_pts p1 q1 p2 q2, rel_fuel h N 59 p (by omega), rel_fuel h N 59 q (by omega)]
  unfold altr
  simp
theorem alt_in {p q : List Nd} {W : Nat} {R : List Lg} (hp : mp p W = 0) (hq : mp q W = 0) (h : dme (alx ((p ++ q).length : Int) :: (p ++ q)) W R = 0) :
    dme p W R = 0 ∧ dme q W R = 0 ∧ wth (dmt p W R) (dmt (alx ((p ++ q).length : Int) :: (p ++ q)) W R) = true ∧ wth (dmt q W R) (dmt (alx ((p ++ q).length : Int) :: (p ++ q)) W R) = true ∧ wth (dmt (alx ((p ++ q).length : Int) :: (p ++ q)) W R) (dmt p W R ++ dmt q W R) = true := by
  have hd := (dme_iff.1 h).2
  have e1 := dme_iff.2 ⟨hp, hd⟩
  have e2 := dme_iff.2 ⟨hq, hd⟩
  refine ⟨e1, e2, wth_iff.2 fun m hm => ?_, wth_iff.2 fun m hm => ?_, wth_iff.2 fun m hm => ?_⟩
  · rw [dmt_iff e1] at hm
    rw [dmt_iff h, rel_alt hp hq, hm.2.2.2]
    exact ⟨hm.1, hm.2.1, hm.2.2.1, rfl⟩
  · rw [dmt_iff e2] at hm
    rw [dmt_iff h, rel_alt hp hq, hm.2.2.2]
    exact ⟨hm.1, hm.2.1, hm.2.2.1, by simp⟩
  · rw [dmt_iff h, rel_alt hp hq, Bool.or_eq_true] at hm
    rw [List.mem_append]
    rcases hm.2.2.2 with r | r
    · exact .inl ((dmt_iff e1).2 ⟨hm.1, hm.2.1, hm.2.2.1, r⟩)
    · exact .inr ((dmt_iff e2).2 ⟨hm.1, hm.2.1, hm.2.2.1, r⟩)
end Go.Proofs.YtccjflioaajgiaaGreatDoor
