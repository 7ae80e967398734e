/- The document's write of a tree, and its Put. -/
import Derived.Test.YtilgoghnoeohnaaDoorCdR
import Derived.Test.YtilgoghnoeohnaaDoorMW
namespace Go.Proofs.YtilgoghnoeohnaaDoor
open Go Go.RowKit Pk Rl
set_option maxRecDepth 20000

theorem wT_fuel (k : Nat) : ∀ (l : List Nd), l.length < k → wT (k + 1) l = wT k l := by
  induction k with
  | zero => intro l h; omega
  | succ k ih =>
    intro l h
    show nbs (l.headD nz) (pts l).length ++ (pts l).flatMap (wT (k + 1)) = nbs (l.headD nz) (pts l).length ++ (pts l).flatMap (wT k)
    congr 1
    have : ∀ qs : List (List Nd), (∀ p ∈ qs, wT (k + 1) p = wT k p) → qs.flatMap (wT (k + 1)) = qs.flatMap (wT k) := by
      intro qs
      induction qs with
      | nil => intro _; rfl
      | cons q qs ihq => intro hq; rw [List.flatMap_cons, List.flatMap_cons, hq q (by simp), ihq (fun p hp => hq p (by simp [hp]))]
    exact this _ fun p hp => ih p (by have := (pts_mem p hp).2.2.1; omega)
theorem hd_in {l : List Nd} (h : l ≠ []) : l.headD nz ∈ l := by
  rcases l with _ | ⟨a, r⟩
  · exact absurd rfl h
  · simp
theorem wT_range (w0 : World) (k : Nat) : ∀ (l : List Nd), l ≠ [] → l.length < 256 → (∀ v ∈ l, Nfit w0 v) → ∀ c ∈ wT k l, 0 ≤ c ∧ c < 256 := by
  induction k with
  | zero => intro l _ _ _ c hc; simp [wT] at hc
  | succ k ih =>
    intro l hl hn hv c hc
    have hc : c ∈ nbs (l.headD nz) (pts l).length ++ (pts l).flatMap (wT k) := hc
    rcases List.mem_append.1 hc with h | h
    · exact nbs_range (hv _ (hd_in hl)) _ (by have := pts_len l; omega) c h
    · obtain ⟨p, hp, h⟩ := List.mem_flatMap.1 h
      have hm := pts_mem p hp
      exact ih p hm.1 (by omega) (fun v hvp => hv v (hm.2.2.2 v hvp)) c h
theorem rwrite_any (w0 : World) (k : Nat) : ∀ (nd : Nd) (Aq : Option Addr) (C : Nat) (l : List Nd) (F : Nat → Prop), l ≠ [] → l.length ≤ 40 → nd = l.headD nz → (∀ v ∈ l, Nfit w0 v) → Trs k w0 F Aq (pts l) → (∀ b, F b → b < w0.heap.size) → GW w0 (wT (k + 1)) nd Aq (pts l).length C l := by
  induction k with
  | zero =>
    intro nd Aq C l F hl hn hnd hv hT hF
    have h0 : pts l = [] := hT
    have hd : Nfit w0 nd := hnd ▸ hv _ (hd_in hl)
    intro B kk c ys W ho hk hk9 hr hb
    have := rwrite1_any w0 (wT 0) nd Aq C (pts l) (fun i hi => by rw [h0] at hi; simp at hi) (by rw [h0]; simp) hd (fun p hp => by rw [h0] at hp; simp at hp) B kk c ys W ho hk (by rw [hnd]; exact hk9) hr hb
    rw [hnd] at this ⊢
    exact this
  | succ k ih =>
    intro nd Aq C l F hl hn hnd hv hT hF
    have hd : Nfit w0 nd := hnd ▸ hv _ (hd_in hl)
    intro B kk c ys W ho hk hk9 hr hb
    have hln := pts_len l
    have := rwrite1_any w0 (wT (k + 1)) nd Aq C (pts l) (fun i hi => by
      obtain ⟨b, off, A', C', ha, hFb, hat, hc, hk2⟩ := hT i hi
      have hp := pts_mem _ (lpgetD_mem (pts l) i hi)
      exact ⟨b, off, _, A', _, C', ha, hF b hFb, hat, hc, ih _ A' C' _ F hp.1 (by omega) rfl (fun v hv2 => hv v (hp.2.2.2 v hv2)) hk2 hF⟩) (by omega) hd
      (fun p hp => wT_range w0 (k + 1) p (pts_mem p hp).1 (by have := (pts_mem p hp).2.2.1; omega) (fun v hv2 => hv v ((pts_mem p hp).2.2.2 v hv2))) B kk c ys W ho hk (by rw [hnd]; exact hk9) hr hb
    rw [hnd] at this ⊢
    exact this
end Go.Proofs.YtilgoghnoeohnaaDoor
