/- A pattern that may be, node by node. -/
import Derived.Test.YtilgoghnoeohnaaDoorCdM
namespace Go.Proofs.YtilgoghnoeohnaaDoor
open Go Go.RowKit Pk Rl
set_option maxRecDepth 20000

/- each node is as its kind asks -/
def AK (p : List Nd) : Prop := ∀ i, i < p.length → kd (p.getD i nz) (pts (p.drop i)).length = true
theorem AK.flat {ps : List (List Nd)} (ha : ∀ p ∈ ps, AF p) (h : ∀ p ∈ ps, AK p) : AK ps.flatten := by
  induction ps with
  | nil => intro i hi; simp at hi
  | cons p ps ih =>
    intro i hi
    rw [List.flatten_cons] at hi ⊢
    rw [List.length_append] at hi
    by_cases c : i < p.length
    · rw [List.drop_append_of_le_length (by omega), pts_app (ha p (by simp) i c), List.getD_eq_getElem?_getD, List.getElem?_append_left c, ← List.getD_eq_getElem?_getD]
      exact h p (by simp) i c
    · rw [List.drop_append, List.drop_of_length_le (by omega), List.nil_append, List.getD_eq_getElem?_getD, List.getElem?_append_right (by omega), ← List.getD_eq_getElem?_getD]
      exact ih (fun q hq => ha q (by simp [hq])) (fun q hq => h q (by simp [hq])) _ (by omega)
theorem fmT_ak (k : Nat) : ∀ (l : List Nd), bld k l = true → fmT k l = true → frn l = l → AK l := by
  induction k with
  | zero => intro l h; cases h
  | succ k ih =>
    intro l h hf hl
    obtain ⟨x, r, ps, h1, h2, h3, h4⟩ := ofp_spl (show ofp (bld k) l = true from h)
    rw [hl] at h1
    subst h1
    unfold fmT at hf
    rw [Bool.and_eq_true] at hf
    have hfl := spl_flat h2
    have hps : ∀ p ∈ ps, AF p ∧ AK p := fun p hp => ⟨(bld_wr k p (List.all_eq_true.1 h4 p hp) (spl_mem h2 p hp).2.1).1, ih p (List.all_eq_true.1 h4 p hp) (List.all_eq_true.1 hf.2 p (by rw [h3]; exact hp)) (spl_mem h2 p hp).2.1⟩
    intro i hi
    rcases i with _ | i
    · exact hf.1
    · rw [List.drop_succ_cons, List.getD_cons_succ, ← hfl]
      exact AK.flat (fun p hp => (hps p hp).1) (fun p hp => (hps p hp).2) i (by rw [hfl]; simpa using hi)
/- what a pattern that may be is -/
structure Fit (L : List Nd) : Prop where
  len : L.length < 33
  ne : L ≠ []
  fr : frn L = L
  bl : bld 33 L = true
  fm : fmT 33 L = true
  qs : L.any bad = false
theorem mp_fit {L : List Nd} {W : Int} (h : mp L W = 0) : Fit L ∧ 1 ≤ W ∧ W ≤ 1048576 := by
  unfold mp at h
  by_cases c1 : 32 < L.length
  · rw [if_pos c1] at h; omega
  rw [if_neg c1] at h
  by_cases c2 : (frn L).length < L.length ∨ fmd 33 L = false
  · rw [if_pos c2] at h; omega
  rw [if_neg c2] at h
  by_cases c3 : L.any bad = true
  · rw [if_pos c3] at h; omega
  rw [if_neg c3] at h
  by_cases c4 : 8 < dpt 33 L
  · rw [if_pos c4] at h; omega
  rw [if_neg c4] at h
  by_cases c5 : W < 1 ∨ 1048576 < W
  · rw [if_pos c5] at h; omega
  rw [not_or] at c2
  have h2 : fmd 33 L = true := by simpa using c2.2
  have h3 := h2
  rw [fmd_eq, Bool.and_eq_true] at h2
  have hne : L ≠ [] := ofp_ne (show ofp (bld 32) L = true from h2.1)
  have hl := frn_len L
  have e : (frn L).length = L.length := by omega
  have hfn : frn L ≠ [] := fun e0 => hne (List.eq_nil_of_length_eq_zero (by rw [← e, e0]; rfl))
  refine ⟨⟨by omega, hne, by rw [frn_take L hfn, e, List.take_of_length_le (Nat.le_refl _)], h2.1, h2.2, by simpa using c3⟩, by omega, by omega⟩
theorem Fit.af {L : List Nd} (h : Fit L) : AF L := (bld_wr 33 L h.bl h.fr).1
theorem Fit.wr {L : List Nd} (h : Fit L) : wT 33 L = wL L L.length := (bld_wr 33 L h.bl h.fr).2
theorem Fit.ak {L : List Nd} (h : Fit L) : AK L := fmT_ak 33 L h.bl h.fm h.fr
theorem kd_k {n : Nd} {m : Nat} (h : kd n m = true) : 1 ≤ n.k ∧ n.k ≤ 4 := by
  unfold kd at h
  by_cases k1 : n.k = 1
  · omega
  rw [if_neg k1] at h
  by_cases k2 : n.k = 2
  · omega
  rw [if_neg k2] at h
  by_cases k3 : n.k = 3
  · omega
  rw [if_neg k3] at h
  by_cases k4 : n.k = 4
  · omega
  rw [if_neg k4] at h
  cases h
/- the sub-pattern of a node, as a piece of the row -/
theorem AF.sub {L : List Nd} (h : AF L) (i : Nat) (hi : i < L.length) : ∃ s : Nat, (L.getD i nz).s = (s : Int) ∧ i + 1 + s ≤ L.length ∧ frn (L.drop i) = (L.drop i).take (1 + s) := by
  have hf := h i hi
  have e : L.drop i = L.getD i nz :: L.drop (i + 1) := by
    rw [List.drop_eq_getElem_cons hi, List.getD_eq_getElem?_getD, List.getElem?_eq_getElem hi]; rfl
  rw [e, frn_cons] at hf
  by_cases c : (L.getD i nz).s < 0 ∨ ((L.drop (i + 1)).length : Int) < (L.getD i nz).s
  · rw [if_pos c] at hf; exact absurd rfl hf
  · rw [List.length_drop] at c
    refine ⟨(L.getD i nz).s.toNat, by omega, by omega, ?_⟩
    rw [e, frn_cons, if_neg (by rw [List.length_drop]; exact c), Nat.add_comm 1, List.take_succ_cons]
end Go.Proofs.YtilgoghnoeohnaaDoor
