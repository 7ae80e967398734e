/- Logged events: both Reads whole; there and back; whether two are the same. -/
import Derived.Test.YtjpdnojkgadklaaEvRRead
namespace Go.Proofs.Ytjpdnojkgadklaa
open Go Go.RowKit Pk Rl
set_option maxRecDepth 20000

theorem frn_ok (l : List Int) (hr : ∀ c ∈ l, 0 ≤ c ∧ c < 256) (h : (frn l).e = 0) :
    gE l 0 = 0 ∧ ¬ 4294967295 < gN l 0 ∧ gE l (gK l 0) = 0 ∧ gE l (gK l (gK l 0)) = 0 ∧ frn l = ⟨gN l 0, gN l (gK l 0), gN l (gK l (gK l 0)), gK l (gK l (gK l 0)), 0⟩ ∧
      ∃ K : Nat, gK l (gK l (gK l 0)) = (K : Int) ∧ K ≤ l.length ∧ l.take K = wfr (gN l 0) (gN l (gK l 0)) (gN l (gK l (gK l 0))) ∧ gN l 0 < 4294967296 ∧ gN l (gK l 0) < 18446744073709551616 ∧ gN l (gK l (gK l 0)) < 18446744073709551616 := by
  unfold frn at h ⊢
  by_cases e1 : gE l 0 = 0
  · rw [if_neg (by simp [e1])] at h ⊢
    by_cases n1 : 4294967295 < gN l 0
    · rw [if_pos n1] at h; exact absurd h (by simp)
    · rw [if_neg n1] at h ⊢
      by_cases e2 : gE l (gK l 0) = 0
      · rw [if_neg (by simp [e2])] at h ⊢
        by_cases e3 : gE l (gK l (gK l 0)) = 0
        · rw [if_neg (by simp [e3])]
          obtain ⟨q1, K1, a1, b1, c1, d1, f1, g1⟩ := f_get l 0 hr e1
          obtain ⟨q2, K2, a2, b2, c2, d2, f2, g2⟩ := f_get l (gK l 0) hr e2
          obtain ⟨q3, K3, a3, b3, c3, d3, f3, g3⟩ := f_get l (gK l (gK l 0)) hr e3
          obtain rfl : q1 = 0 := by omega
          obtain rfl : q2 = K1 := by omega
          obtain rfl : q3 = K2 := by omega
          refine ⟨e1, n1, e2, e3, rfl, K3, b3, d3, ?_, by omega, g2, g3⟩
          rw [List.drop_zero, Nat.sub_zero] at f1
          unfold wfr
          rw [← f1, ← f2, ← f3, show K3 = q2 + ((q3 - q2) + (K3 - q3)) by omega, List.take_add, List.take_add, List.drop_drop, show q2 + (q3 - q2) = q3 by omega, show q2 + (q3 - q2 + (K3 - q3)) - q3 = K3 - q3 by omega]
        · rw [if_pos e3] at h; exact absurd h e3
      · rw [if_pos e2] at h; exact absurd h e2
  · rw [if_pos e1] at h; exact absurd h e1

theorem eread_any (b : Option Addr) (len cap : Nat) (l : List Int) (w : World) (hl : l.length = len) (hm : len ≤ 100000) (hc : len ≤ cap) (hb : Byt w b l) :
    Calls Try.prog 21 #[.slice b len cap] w fun e w' => ∃ A k c', e = .returned (got2 (lr l).p (lr l).s (lr l).a (lr l).t A k c' ((lr l).e : Int)) ∧ (lr l).fs.length = k ∧ OwnV w' w.heap.size (.slice A k c') (lr l).fs ∧ Below w.heap.size w w' := by
  have F := fun w hb => front_any b len cap l w hl hm hc hb
  unfold lr
  by_cases e1 : (frn l).e = 0
  · rw [if_neg (by simp [e1])]
    obtain ⟨_, _, _, _, ef, K, hK, hKl, _⟩ := frn_ok l hb.2 e1
    have hk : (frn l).k = (K : Int) := by rw [ef]; exact hK
    rw [hk, e1] at F
    rw [hk]
    have G := fun w hb => eget_any b len cap l (K : Int) w hl hm hc (by omega) hb
    by_cases e2 : (eg l (K : Int)).e = 0
    · rw [if_neg (by simp [e2])]
      rw [e2] at G
      obtain ⟨q, K2, _, k2, _, k3, _⟩ := eg_only l (K : Int) hb.2 (by omega) e2
      by_cases e3 : (eg l (K : Int)).k = (l.length : Int)
      · rw [if_neg (by simp [e3])]
        exact read_4 b len cap l w _ _ _ _ _ _ _ (by rw [e3, hl]; omega) hb (Lib.hid F) (Lib.hid G)
      · rw [if_pos e3]
        exact (read_3 b len cap l w _ _ _ _ _ _ _ (by omega) hb (Lib.hid F) (Lib.hid G)).mono fun e w' h => ⟨none, 0, 0, h.1, rfl, OwnV.nil _ _, h.2⟩
    · rw [if_pos e2]
      exact (read_2 b len cap l w _ _ _ _ _ _ _ _ e2 hb (Lib.hid F) (Lib.hid G)).mono fun e w' h => ⟨none, 0, 0, h.1, rfl, OwnV.nil _ _, h.2⟩
  · rw [if_pos e1]
    exact (read_1 b len cap l w _ _ _ _ _ e1 hb (Lib.hid F)).mono fun e w' h => ⟨none, 0, 0, h.1, rfl, OwnV.nil _ _, h.2⟩

theorem reread_any (b : Option Addr) (len cap : Nat) (l : List Int) (w : World) (hl : l.length = len) (hm : len ≤ 100000) (hc : len ≤ cap) (hb : Byt w b l) :
    Calls Try.prog 23 #[.slice b len cap] w fun e w' => ∃ A k c', e = .returned (got2 (lr l).p (lr l).s (lr l).a (lr l).t A k c' ((lr l).e : Int)) ∧ (lr l).fs.length = k ∧ OwnV w' w.heap.size (.slice A k c') (lr l).fs ∧ Below w.heap.size w w' := by
  unfold lr
  by_cases e1 : (frn l).e = 0
  · rw [if_neg (by simp [e1])]
    obtain ⟨g1, n1, g2, g3, ef, K, hK, hKl, _⟩ := frn_ok l hb.2 e1
    rw [ef]
    simp only
    have Q1 := rget_any b len cap l 0 (two2 w) hl hm (hb.below (two2_below w))
    have Q2 := rget_any b len cap l (gK l 0) (two2 w) hl hm (hb.below (two2_below w))
    have Q3 := rget_any b len cap l (gK l (gK l 0)) (two2 w) hl hm (hb.below (two2_below w))
    rw [g1] at Q1
    rw [g2] at Q2
    rw [g3] at Q3
    have G := fun w hb => reget_any b len cap l (gK l (gK l (gK l 0))) w hl hm hc (by omega) hb
    by_cases e2 : (eg l (gK l (gK l (gK l 0)))).e = 0
    · rw [if_neg (by simp [e2])]
      rw [e2] at G
      by_cases e3 : (eg l (gK l (gK l (gK l 0)))).k = (l.length : Int)
      · rw [if_neg (by simp [e3])]
        exact rread_4 b len cap l w _ _ _ _ _ _ _ _ _ (by rw [e3, hl]; simp) n1 hb (Lib.hid Q1) (Lib.hid Q2) (Lib.hid Q3) (Lib.hid G)
      · rw [if_pos e3]
        exact (rread_3 b len cap l w _ _ _ _ _ _ _ _ _ (by rw [← hl]; simpa using e3) n1 hb (Lib.hid Q1) (Lib.hid Q2) (Lib.hid Q3) (Lib.hid G)).mono fun e w' h => ⟨none, 0, 0, h.1, rfl, OwnV.nil _ _, h.2⟩
    · rw [if_pos e2]
      exact (rread_2 b len cap l w _ _ _ _ _ _ _ _ _ _ e2 n1 hb (Lib.hid Q1) (Lib.hid Q2) (Lib.hid Q3) (Lib.hid G)).mono fun e w' h => ⟨none, 0, 0, h.1, rfl, OwnV.nil _ _, h.2⟩
  · rw [if_pos e1]
    exact (rread_1 b len cap l w hl hm hb e1).mono fun e w' h => ⟨none, 0, 0, h.1, rfl, OwnV.nil _ _, h.2⟩

theorem lr_bad (l : List Int) (h : (lr l).e ≠ 0) : (lr l).fs = [] := by
  unfold lr at h ⊢
  split at h
  · rename_i c; rw [if_pos c]
  · rename_i c; rw [if_neg c]
    split at h
    · rename_i c; rw [if_pos c]
    · rename_i c; rw [if_neg c]
      split at h
      · rename_i c; rw [if_pos c]
      · exact absurd rfl h
theorem lr_only (l : List Int) (hr : ∀ c ∈ l, 0 ≤ c ∧ c < 256) (hlen : l.length ≤ 100000) (h : (lr l).e = 0) :
    l = wfr (lr l).p (lr l).s (lr l).a ++ wev (lr l).t (lr l).fs ∧ emay (lr l).fs = true ∧ (0 ≤ (lr l).t ∧ (lr l).t < 256) ∧ (lr l).p < 4294967296 ∧ (lr l).s < 18446744073709551616 ∧ (lr l).a < 18446744073709551616 ∧ ∀ v ∈ (lr l).fs, Okv v := by
  unfold lr at h ⊢
  by_cases e1 : (frn l).e = 0
  · rw [if_neg (by simp [e1])] at h ⊢
    obtain ⟨_, _, _, _, ef, K, hK, hKl, ht, p1, p2, p3⟩ := frn_ok l hr e1
    rw [ef] at h ⊢
    simp only [hK] at h ⊢
    by_cases e2 : (eg l (K : Int)).e = 0
    · rw [if_neg (by simp [e2])] at h ⊢
      obtain ⟨q, K2, a1, a2, a3, a4, a5, a6, a7⟩ := eg_only l (K : Int) hr hlen e2
      obtain rfl : q = K := by omega
      by_cases e3 : (eg l (q : Int)).k = (l.length : Int)
      · rw [if_neg (by simp [e3])]
        refine ⟨?_, a6, a7, p1, p2, p3, eg_ok l _ hr hlen⟩
        obtain rfl : K2 = l.length := by omega
        show l = _ ++ wev (eg l (q : Int)).t (eg l (q : Int)).fs
        rw [← ht, ← a5, ← List.length_drop, List.take_length, List.take_append_drop]
      · rw [if_pos e3] at h; exact absurd h (by simp)
    · rw [if_pos e2] at h; exact absurd h e2
  · rw [if_pos e1] at h; exact absurd h e1
theorem lr_len (l : List Int) (hr : ∀ c ∈ l, 0 ≤ c ∧ c < 256) (hlen : l.length ≤ 100000) : (lr l).fs.length ≤ 8 ∧ ∀ v ∈ (lr l).fs, Okv v := by
  by_cases h : (lr l).e = 0
  · obtain ⟨_, hm, _, _, _, _, hk⟩ := lr_only l hr hlen h
    exact ⟨emay_len hm, hk⟩
  · rw [lr_bad l h]; simp

theorem lr_back (p s a : Nat) (t : Int) (L : List VV) (hp : p < 4294967296) (hs : s < 18446744073709551616) (ha : a < 18446744073709551616) (h : emay L = true) (hk : ∀ v ∈ L, Okv v) :
    lr (wfr p s a ++ wev t L) = ⟨p, s, a, t, L.map nb, 0⟩ := by
  have hL : wfr p s a ++ wev t L = [] ++ (wrt p ++ (wrt s ++ (wrt a ++ wev t L))) := by simp [wfr]
  obtain ⟨x1, x2, x3⟩ := got [] (wrt s ++ (wrt a ++ wev t L)) p (by omega) _ hL 0 (by simp)
  have hL2 : wfr p s a ++ wev t L = wrt p ++ (wrt s ++ (wrt a ++ wev t L)) := by simp [wfr]
  obtain ⟨y1, y2, y3⟩ := got (wrt p) (wrt a ++ wev t L) s hs _ hL2 (gK (wfr p s a ++ wev t L) 0) (by rw [x2]; simp)
  have hL3 : wfr p s a ++ wev t L = (wrt p ++ wrt s) ++ (wrt a ++ wev t L) := by simp [wfr]
  obtain ⟨z1, z2, z3⟩ := got (wrt p ++ wrt s) (wev t L) a ha _ hL3 (gK (wfr p s a ++ wev t L) (gK (wfr p s a ++ wev t L) 0)) (by rw [y2, x2]; simp)
  have hz : gK (wfr p s a ++ wev t L) (gK (wfr p s a ++ wev t L) (gK (wfr p s a ++ wev t L) 0)) = ((wfr p s a).length : Int) := by rw [z2, y2, x2]; simp [wfr]; omega
  have ef : frn (wfr p s a ++ wev t L) = ⟨p, s, a, ((wfr p s a).length : Int), 0⟩ := by
    unfold frn
    rw [if_neg (by simp [x3]), if_neg (by rw [x1]; omega), if_neg (by simp [y3]), if_neg (by simp [z3]), x1, y1, z1, hz]
  unfold lr
  rw [ef]
  simp only
  rw [eg_back (wfr p s a) t L h hk]
  simp

set_option maxHeartbeats 1000000 in
theorem slog_any (p s a : Nat) (t t' : Int) (A A' : Option Addr) (k c k' c' : Nat) (w : World) (q : Bool)
    (S : Hid (∀ w1, Below w.heap.size w w1 → Calls Try.prog 15 #[ev t A k c, ev t' A' k' c'] w1 fun e w' => e = .returned (.bool q) ∧ Below w1.heap.size w1 w')) :
    Calls Try.prog 22 #[lg p s a t A k c, lg p s a t' A' k' c'] w fun e w' => e = .returned (.bool q) ∧ Below w.heap.size w w' := by
  have B0 := Lib.hid (below_go (below_alloc w (lcells p s a t A k c)) (below_alloc _ (lcells p s a t' A' k' c')))
  have S1 := Lib.hid (S.out _ B0.out)
  clear S
  go_enter Try.func22, Try.ntmps22
  go_wp2_with fail
  refine S1.out.mono ?_
  rintro e w1 ⟨rfl, hbl⟩
  have B1 := Lib.hid (below_go B0.out hbl)
  clear hbl
  go_wp2_with fail
  go_ret
  exact ⟨rfl, B1.out⟩
end Go.Proofs.Ytjpdnojkgadklaa
