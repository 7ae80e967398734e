/- The program's pattern: any tree that may be. -/
import Derived.Test.YtilgoghnoeohnaaDoorCdY
import Derived.Test.YtilgoghnoeohnaaDoorCdS
import Derived.Test.YtilgoghnoeohnaaDoorCdN
namespace Go.Proofs.YtilgoghnoeohnaaDoor
open Go Go.RowKit Pk Rl
set_option maxRecDepth 20000

theorem fold_max (g : List Nd → Int) (ps : List (List Nd)) : ∀ m : Int, m ≤ ps.foldl (fun m p => max m (1 + g p)) m ∧ ∀ p ∈ ps, 1 + g p ≤ ps.foldl (fun m p => max m (1 + g p)) m := by
  induction ps with
  | nil => intro m; exact ⟨Int.le_refl _, by simp⟩
  | cons q ps ih =>
    intro m
    obtain ⟨h1, h2⟩ := ih (max m (1 + g q))
    rw [List.foldl_cons]
    refine ⟨by omega, fun p hp => ?_⟩
    rcases List.mem_cons.1 hp with rfl | hp
    · omega
    · exact h2 p hp
theorem frn_size {x : Nd} {r : List Nd} (h : frn (x :: r) = x :: r) : x.s = (r.length : Int) := by
  rw [frn_cons] at h
  by_cases c : x.s < 0 ∨ (r.length : Int) < x.s
  · rw [if_pos c] at h; cases h
  · rw [if_neg c] at h
    injection h with _ h
    have := congrArg List.length h
    rw [List.length_take] at this
    omega
theorem reads_any (w0 : World) (r B b off len cap : Nat) (l : List Int) (hr0 : w0.heap.size ≤ r) (hr : r < B) (hlen : l.length = len) (hl : len ≤ 100000) (hc : len ≤ cap) (hb : Byt w0 (some ⟨b, off, none⟩) l) (hbr : b < w0.heap.size) (hT : Tab w0) (kf : Nat) :
    ∀ (p : List Nd) (o : Int), bld kf p = true → fmT kf p = true → frn p = p → p.length ≤ 32 → (∀ v ∈ p, Nfit w0 v) → 0 ≤ o → o + dpt kf p ≤ 8 → PC w0 r B b off len cap l (wT kf) p o := by
  induction kf with
  | zero => intro p o h; cases h
  | succ kf ih =>
    intro p o h hf hp h32 hv ho hd
    obtain ⟨x, q, ps, h1, h2, h3, h4⟩ := ofp_spl (show ofp (bld kf) p = true from h)
    rw [hp] at h1
    subst h1
    have hfl := spl_flat h2
    unfold fmT at hf
    rw [Bool.and_eq_true, h3] at hf
    have hs := frn_size hp
    rw [← hfl] at hs
    have hm : ∀ p ∈ ps, p ≠ [] ∧ frn p = p ∧ p.length < (x :: q).length ∧ ∀ v ∈ p, v ∈ x :: q := fun p hp => pts_mem p (by rw [h3]; exact hp)
    have hd2 : o + ps.foldl (fun m p => max m (1 + dpt kf p)) 0 ≤ 8 := by
      have := hd
      unfold dpt at this
      rwa [h3] at this
    have hfm := fold_max (dpt kf) ps 0
    have hln : ps.length < 256 := by have := pts_len (x :: q); rw [h3] at this; omega
    have hkx : x.k = 1 ∨ o < 8 := by
      by_cases c : x.k = 1
      · exact .inl c
      · right
        have hk : kd x ps.length = true := hf.1
        have h0 : ps ≠ [] := fun e => by
          subst e
          unfold kd at hk
          rw [if_neg c] at hk
          simp at hk
        rcases ps with _ | ⟨p0, ps⟩
        · exact absurd rfl h0
        · have := hfm.2 p0 (by simp)
          have := dpt_pos kf p0
          omega
    intro pre post W A k c D hL hG hk
    have hpt : (x :: q).length = ps.flatten.length + 1 := by rw [hfl]; rfl
    have ew : wT (kf + 1) (x :: q) = nbs x ps.length ++ ps.flatMap (wT kf) := by
      show nbs x (pts (x :: q)).length ++ (pts (x :: q)).flatMap (wT kf) = _
      rw [h3]
    rw [ew] at hL ⊢
    rw [hpt] at hk
    have := pattern1 w0 r B b off len cap l hr0 hr hlen hl hc hb hbr hT (wT kf) x ps hf.1 hln (hv x (by simp)) o hkx ho (by have := hfm.1; omega) hs (fun p hp => ih p (o + 1) (List.all_eq_true.1 h4 p hp) (List.all_eq_true.1 hf.2 p hp) (hm p hp).2.1 (by have := (hm p hp).2.2.1; omega) (fun v hvp => hv v ((hm p hp).2.2.2 v hvp)) (by omega) (by have := hfm.2 p hp; omega)) pre post W A k c D hL hG hk
    rw [hpt, ← hfl]
    exact this
end Go.Proofs.YtilgoghnoeohnaaDoor
