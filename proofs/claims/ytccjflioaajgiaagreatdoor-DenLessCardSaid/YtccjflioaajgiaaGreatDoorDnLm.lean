/- A sequence, and the same with a shorter window or a guard: by values. -/
import Derived.Test.YtccjflioaajgiaaGreatDoorDnLs
namespace Go.Proofs.YtccjflioaajgiaaGreatDoor
open Go Go.RowKit Go.Maps Pk Rl
set_option maxRecDepth 20000

theorem mp_win {L : List Nd} {W : Int} (h : mp L W = 0) : 1 ≤ W ∧ W ≤ 1048576 := by
  unfold mp at h
  by_cases c1 : 32 < L.length
  · rw [if_pos c1] at h; omega
  rw [if_neg c1] at h
  by_cases c2 : (frn L).length < L.length ∨ fmd 33 L = false
  · rw [if_pos c2] at h; omega
  rw [if_neg c2] at h
  by_cases c3 : L.any bad = true
  · rw [if_pos c3] at h; omega
  rw [if_neg c3] at h
  by_cases c4 : 8 < dpt 33 L
  · rw [if_pos c4] at h; omega
  rw [if_neg c4] at h
  by_cases c5 : W < 1 ∨ 1048576 < W
  · rw [if_pos c5] at h; omega
  omega
abbrev sqx (s : Int) : Nd := ⟨2, qz, false, qz, 0, 0, s⟩
abbrev qtop : Qu := ⟨false, 1, none, 0, 0, []⟩
abbrev tqx (s : Int) : Nd := ⟨2, qz, true, qtop, 0, 0, s⟩
abbrev t9 : TT := (9, 7, vz)
abbrev q9 (b : Nat) : Qu := ⟨true, 0, some ⟨b, 0, none⟩, 1, 1, [t9]⟩
abbrev lqx (b : Nat) (s : Int) : Nd := ⟨2, qz, true, q9 b, 0, 0, s⟩
theorem less_in {s : Int} {M : List Nd} {W ws : Nat} {R : List Lg} (h : dme (sqx s :: M) W R = 0) (h1 : 1 ≤ ws) (h2 : ws ≤ W) : dme (sqx s :: M) ws R = 0 ∧ wth (dmt (sqx s :: M) ws R) (dmt (sqx s :: M) W R) = true := by
  have e := dme_iff.1 h
  have e' : dme (sqx s :: M) ws R = 0 := dme_iff.2 ⟨mp_head (x := sqx s) (x' := sqx s) rfl rfl rfl rfl rfl rfl (.inr (by rfl)) (by rfl) (by omega) (by omega) e.1, e.2⟩
  refine ⟨e', wth_iff.2 fun m hm => ?_⟩
  rw [dmt_iff e'] at hm
  rw [dmt_iff h]
  exact ⟨hm.1, hm.2.1, by omega, hm.2.2.2⟩
theorem tight_in {s : Int} {M : List Nd} {W : Nat} {R : List Lg} (h : dme (sqx s :: M) W R = 0) : dme (tqx s :: M) W R = 0 ∧ wth (dmt (tqx s :: M) W R) (dmt (sqx s :: M) W R) = true := by
  have e := dme_iff.1 h
  have hw := mp_win e.1
  have e' : dme (tqx s :: M) W R = 0 := dme_iff.2 ⟨mp_head (x := sqx s) (x' := tqx s) rfl rfl rfl rfl rfl rfl (.inl rfl) (by rfl) (by omega) (by omega) e.1, e.2⟩
  refine ⟨e', wth_iff.2 fun m hm => ?_⟩
  rw [dmt_iff e'] at hm
  rw [dmt_iff h]
  exact ⟨hm.1, hm.2.1, hm.2.2.1, rel_guard (x := sqx s) (x' := tqx s) rfl rfl rfl rfl hm.2.2.2⟩
theorem hold9 (y : Int) (E : List VV) : phold true 0 [t9] y E = false := by
  unfold phold
  by_cases h : emay E = true
  · have hl : E.length ≤ 8 := by
      unfold emay at h
      rw [Bool.and_eq_true, decide_eq_true_eq] at h
      exact h.1
    have : hdf t9 E = false := by
      unfold hdf
      rw [if_neg (by show ¬ (9 : Int).toNat < E.length; omega)]
    rw [List.all_cons, this]
    simp
  · rw [Bool.not_eq_true] at h
    rw [h]
    simp
theorem loose_in {b : Nat} {s : Int} {M : List Nd} {W : Nat} {R : List Lg} (hr : rgt t9 = true) (h : dme (sqx s :: M) W R = 0) : dme (lqx b s :: M) W R = 0 ∧ dmt (lqx b s :: M) W R = dmt (sqx s :: M) W R := by
  have e := dme_iff.1 h
  have hw := mp_win e.1
  have hb : pmay true 0 [t9] = true := by
    unfold pmay
    rw [List.all_cons, hr]
    rfl
  have e' : dme (lqx b s :: M) W R = 0 := dme_iff.2 ⟨mp_head (x := sqx s) (x' := lqx b s) rfl rfl rfl rfl rfl rfl (.inl rfl) hb (by omega) (by omega) e.1, e.2⟩
  exact ⟨e', dmt_loose (x := sqx s) (x' := lqx b s) rfl rfl rfl rfl (fun i _ => hold9 _ _) h e'⟩
end Go.Proofs.YtccjflioaajgiaaGreatDoor
