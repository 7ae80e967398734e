/- How many places, and edges, an automaton has; where they lie. -/
import Derived.Test.YtpnllbojifnopaaGreatDoorAuPt
namespace Go.Proofs.YtpnllbojifnopaaGreatDoor
open Go Go.RowKit Pk Rl
set_option maxRecDepth 20000

def cnt : Nat → List Nd → Nat
  | 0, _ => 0
  | k + 1, l => if (l.headD nz).k = 1 then 1 else if (l.headD nz).k = 4 then ((pts l).map (cnt k)).sum * (l.headD nz).hi.toNat else ((pts l).map (cnt k)).sum
/- two edges have other ends -/
def Dk (a b : EV) : Prop := ¬ (a.1 = b.1 ∧ a.2.1 = b.2.1)
/- what holds of an automaton from its first place on -/
structure Ok2 (n : Nat) (s : Res) : Prop where
  f0 : s.1 ≠ 0
  l0 : s.2.1 ≠ 0
  fr : ∀ i, s.1.testBit i = true → n ≤ i ∧ i < n + s.2.2.1.length
  lr : ∀ i, s.2.1.testBit i = true → n ≤ i ∧ i < n + s.2.2.1.length
  er : ∀ e ∈ s.2.2.2, n ≤ e.1 ∧ e.1 < e.2.1 ∧ e.2.1 < n + s.2.2.1.length
  nd : s.2.2.2.Pairwise Dk
theorem btz_mem {x i : Nat} : i ∈ btz x ↔ i < 32 ∧ x.testBit i = true := by unfold btz; rw [List.mem_filter, List.mem_range]
theorem btz_rise (x : Nat) : (btz x).Pairwise (· < ·) := by unfold btz; exact List.Pairwise.filter _ List.pairwise_lt_range
theorem jn_mem {y : Bool} {g : VQ} {a b : Nat} {e : EV} : e ∈ jn y g a b ↔ e.1 ∈ btz a ∧ e.2.1 ∈ btz b ∧ e.2.2 = (y, g) := by
  unfold jn jnO jnI
  rw [List.mem_flatMap]
  constructor
  · rintro ⟨f, hf, h⟩
    obtain ⟨t, ht, rfl⟩ := List.mem_map.1 h
    exact ⟨hf, ht, rfl⟩
  · rintro ⟨h1, h2, h3⟩
    exact ⟨e.1, h1, List.mem_map.2 ⟨e.2.1, h2, by rw [← h3]⟩⟩
theorem jn_dk (y : Bool) (g : VQ) (a b : Nat) : (jn y g a b).Pairwise Dk := by
  unfold jn jnO jnI
  rw [List.pairwise_flatMap]
  refine ⟨fun f _ => ?_, ?_⟩
  · rw [List.pairwise_map]
    exact (btz_rise b).imp fun {x z} h e => by have := e.2; simp only at this; omega
  · refine (btz_rise a).imp fun {f f'} hlt => ?_
    intro p hp q hq e
    obtain ⟨_, _, rfl⟩ := List.mem_map.1 hp
    obtain ⟨_, _, rfl⟩ := List.mem_map.1 hq
    have := e.1
    simp only at this
    omega
theorem jn_len (y : Bool) (g : VQ) (a b : Nat) : (jn y g a b).length ≤ 1024 := by
  have h1 := jnO_len y g b (btz a)
  have h2 := btz_len a
  unfold jn
  omega
theorem or_ne {a b : Nat} (h : a ≠ 0) : a ||| b ≠ 0 := fun e => h (Nat.or_eq_zero_iff.1 e).1
theorem or_ne' {a b : Nat} (h : b ≠ 0) : a ||| b ≠ 0 := fun e => h (Nat.or_eq_zero_iff.1 e).2
/- while parts are gone through, one of which happens -/
structure Oi (n : Nat) (s : Res) : Prop where
  fr : ∀ i, s.1.testBit i = true → n ≤ i ∧ i < n + s.2.2.1.length
  lr : ∀ i, s.2.1.testBit i = true → n ≤ i ∧ i < n + s.2.2.1.length
  er : ∀ e ∈ s.2.2.2, n ≤ e.1 ∧ e.1 < e.2.1 ∧ e.2.1 < n + s.2.2.1.length
  nd : s.2.2.2.Pairwise Dk
theorem oi_step (f : List Nd → Nat → Res) (n : Nat) (s : Res) (p : List Nd) (h : Oi n s) (hp : Ok2 (n + s.2.2.1.length) (f p (n + s.2.2.1.length))) : Oi n (eis f n s p) ∧ (eis f n s p).1 ≠ 0 ∧ (eis f n s p).2.1 ≠ 0 := by
  unfold eis
  refine ⟨⟨fun i hi => ?_, fun i hi => ?_, fun e he => ?_, ?_⟩, or_ne' hp.f0, or_ne' hp.l0⟩
  · simp only [List.length_append] at hi ⊢
    rw [Nat.testBit_or, Bool.or_eq_true] at hi
    rcases hi with hi | hi
    · have := h.fr i hi; omega
    · have := hp.fr i hi; omega
  · simp only [List.length_append] at hi ⊢
    rw [Nat.testBit_or, Bool.or_eq_true] at hi
    rcases hi with hi | hi
    · have := h.lr i hi; omega
    · have := hp.lr i hi; omega
  · simp only [List.length_append] at he ⊢
    rcases List.mem_append.1 he with he | he
    · have := h.er e he; omega
    · have := hp.er e he; omega
  · simp only
    rw [List.pairwise_append]
    refine ⟨h.nd, hp.nd, fun a ha b hb e => ?_⟩
    have h1 := h.er a ha
    have h2 := hp.er b hb
    have := e.1
    omega
theorem ei_ok (f : List Nd → Nat → Res) (n : Nat) (ps : List (List Nd)) (h : ∀ p ∈ ps, ∀ n, Ok2 n (f p n)) : ∀ s : Res, Oi n s → (ps ≠ [] ∨ s.1 ≠ 0 ∧ s.2.1 ≠ 0) → Ok2 n (ps.foldl (eis f n) s) := by
  induction ps with
  | nil =>
    intro s hs h0
    rcases h0 with h0 | h0
    · exact absurd rfl h0
    · exact ⟨h0.1, h0.2, hs.fr, hs.lr, hs.er, hs.nd⟩
  | cons p ps ih =>
    intro s hs _
    obtain ⟨h1, h2, h3⟩ := oi_step f n s p hs (h p (List.mem_cons_self ..) _)
    exact ih (fun q hq => h q (List.mem_cons_of_mem _ hq)) _ h1 (.inr ⟨h2, h3⟩)
/- while parts are gone through, one behind the other -/
structure Oc (n : Nat) (least : Nat) (s : Cs) : Prop where
  fr : ∀ i, s.fi.testBit i = true → n ≤ i ∧ i < n + s.P.length
  lr : ∀ i, s.la.testBit i = true → n ≤ i ∧ i < n + s.P.length
  ar : ∀ i, s.al.testBit i = true → n ≤ i ∧ i < n + s.P.length
  er : ∀ e ∈ s.E, n ≤ e.1 ∧ e.1 < e.2.1 ∧ e.2.1 < n + s.P.length
  nd : s.E.Pairwise Dk
  f0 : 0 < s.i → s.fi ≠ 0
  l0 : 0 < s.i → least ≤ s.i → s.la ≠ 0
theorem oc_step (f : List Nd → Nat → Res) (n : Nat) (y : Bool) (g : VQ) (least : Nat) (s : Cs) (p : List Nd) (h : Oc n least s) (hp : Ok2 (n + s.P.length) (f p (n + s.P.length))) : Oc n least (cst f n y g least s p) := by
  unfold cst
  refine ⟨fun i hi => ?_, fun i hi => ?_, fun i hi => ?_, fun e he => ?_, ?_, fun _ => ?_, fun _ hl => ?_⟩
  · simp only [List.length_append] at hi ⊢
    by_cases c : s.i = 0
    · rw [if_pos c] at hi; have := hp.fr i hi; omega
    · rw [if_neg c] at hi; have := h.fr i hi; omega
  · simp only [List.length_append] at hi ⊢
    by_cases c : least ≤ s.i + 1
    · rw [if_pos c, Nat.testBit_or, Bool.or_eq_true] at hi
      rcases hi with hi | hi
      · have := h.lr i hi; omega
      · have := hp.lr i hi; omega
    · rw [if_neg c] at hi; have := h.lr i hi; omega
  · simp only [List.length_append] at hi ⊢
    have := hp.lr i hi
    omega
  · simp only [List.length_append] at he ⊢
    rcases List.mem_append.1 he with he | he
    · rcases List.mem_append.1 he with he | he
      · have := h.er e he; omega
      · have := hp.er e he; omega
    · obtain ⟨h1, h2, _⟩ := jn_mem.1 he
      have h3 := h.ar _ (btz_mem.1 h1).2
      have h4 := hp.fr _ (btz_mem.1 h2).2
      omega
  · simp only
    rw [List.pairwise_append, List.pairwise_append]
    refine ⟨⟨h.nd, hp.nd, fun a ha b hb e => ?_⟩, jn_dk _ _ _ _, fun a ha b hb e => ?_⟩
    · have h1 := h.er a ha
      have h2 := hp.er b hb
      have := e.1
      omega
    · obtain ⟨h1, h2, _⟩ := jn_mem.1 hb
      have h3 := h.ar _ (btz_mem.1 h1).2
      have h4 := hp.fr _ (btz_mem.1 h2).2
      have e1 := e.1
      have e2 := e.2
      rcases List.mem_append.1 ha with ha | ha
      · have := h.er a ha; omega
      · have := hp.er a ha; omega
  · by_cases c : s.i = 0
    · simp only [if_pos c]; exact hp.f0
    · simp only [if_neg c]; exact h.f0 (by omega)
  · simp only at hl ⊢
    rw [if_pos hl]
    exact or_ne' hp.l0
theorem oc_fold (f : List Nd → Nat → Res) (n : Nat) (y : Bool) (g : VQ) (least : Nat) (ps : List (List Nd)) (h : ∀ p ∈ ps, ∀ n, Ok2 n (f p n)) : ∀ s : Cs, Oc n least s → Oc n least (ps.foldl (cst f n y g least) s) := by
  induction ps with
  | nil => intro s hs; exact hs
  | cons p ps ih => intro s hs; exact ih (fun q hq => h q (List.mem_cons_of_mem _ hq)) _ (oc_step f n y g least s p hs (h p (List.mem_cons_self ..) _))
theorem ch_ok (f : List Nd → Nat → Res) (n : Nat) (y : Bool) (g : VQ) (least : Nat) (ps : List (List Nd)) (h : ∀ p ∈ ps, ∀ n, Ok2 n (f p n)) (hne : ps ≠ []) (hl : least ≤ ps.length) : Ok2 n (ch f n y g least ps) := by
  have h0 : Oc n least cs0 := ⟨by simp [cs0], by simp [cs0], by simp [cs0], by simp [cs0], by simp [cs0], by simp [cs0], by simp [cs0]⟩
  have hc := oc_fold f n y g least ps h cs0 h0
  have hi := cst_i f n y g least ps cs0
  have hp : 0 < ps.length := List.length_pos_iff.2 hne
  rw [show cs0.i = 0 from rfl, Nat.zero_add] at hi
  exact ⟨hc.f0 (by rw [hi]; exact hp), hc.l0 (by rw [hi]; exact hp) (by rw [hi]; exact hl), hc.fr, hc.lr, hc.er, hc.nd⟩
theorem au_ok (k : Nat) : ∀ (l : List Nd), fmd k l = true → frn l = l → ∀ n, Ok2 n (au k l n) := by
  induction k with
  | zero => intro l h; cases h
  | succ k ih =>
    intro l h hf n
    unfold fmd at h
    rw [Bool.and_eq_true] at h
    obtain ⟨x, q, ps, h1, h2, h3, h4⟩ := ofp_spl h.1
    have hk := kd_k h.2
    have hm := h.2
    have IH : ∀ p ∈ pts l, ∀ n, Ok2 n (au k p n) := fun p hp => ih p (List.all_eq_true.1 h4 p (by rw [← h3]; exact hp)) (pts_mem p hp).2.1
    unfold au
    rcases hk with hk | hk | hk | hk
    · rw [if_neg (by omega), if_neg (by omega), if_neg (by omega)]
      refine ⟨Nat.ne_of_gt (Nat.two_pow_pos n), Nat.ne_of_gt (Nat.two_pow_pos n), fun i hi => ?_, fun i hi => ?_, by simp, by simp⟩
      all_goals
        rw [Nat.testBit_two_pow, decide_eq_true_eq] at hi
        simp only [List.length_singleton]
        omega
    · rw [if_pos hk]
      have := kd_m2 hm (.inl hk)
      exact ch_ok (au k) n _ _ _ _ IH (fun e => by rw [e] at this; simp at this) (Nat.le_refl _)
    · rw [if_neg (by omega), if_pos hk]
      have := kd_m2 hm (.inr hk)
      exact ei_ok (au k) n _ IH _ ⟨by simp, by simp, by simp, by simp⟩ (.inl (fun e => by rw [e] at this; simp at this))
    · rw [if_neg (by omega), if_neg (by omega), if_pos hk]
      obtain ⟨m1, m2, m3, m4⟩ := kd_rep hm hk
      obtain ⟨p0, hp0⟩ : ∃ p, pts l = [p] := List.length_eq_one_iff.1 m1
      rw [hp0, List.headD_cons]
      have hp : p0 ∈ pts l := by rw [hp0]; simp
      refine ch_ok (au k) n _ _ _ _ (fun p h n => by rw [(List.mem_replicate.1 h).2]; exact IH p0 hp n) (fun e => ?_) (by rw [List.length_replicate]; omega)
      have := congrArg List.length e
      rw [List.length_replicate] at this
      simp only [List.length_nil] at this
      omega
end Go.Proofs.YtpnllbojifnopaaGreatDoor
