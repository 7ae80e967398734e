/- Contracts, joined: AuN, AuO, AK. -/
import Derived.Test.YtpnllbojifnopaaGreatDoorYB2
namespace Go.Proofs.YtpnllbojifnopaaGreatDoor
open Go Go.RowKit Pk Rl
set_option maxRecDepth 20000
def cnt : Nat → List Nd → Nat
  | 0, _ => 0
  | k + 1, l => if (l.headD nz).k = 1 then 1 else if (l.headD nz).k = 4 then ((pts l).map (cnt k)).sum * (l.headD nz).hi.toNat else ((pts l).map (cnt k)).sum
def Dk (a b : EV) : Prop := ¬ (a.1 = b.1 ∧ a.2.1 = b.2.1)
structure Ok2 (n : Nat) (s : Res) : Prop where
  f0 : s.1 ≠ 0
  l0 : s.2.1 ≠ 0
  fr : ∀ i, s.1.testBit i = true → n ≤ i ∧ i < n + s.2.2.1.length
  lr : ∀ i, s.2.1.testBit i = true → n ≤ i ∧ i < n + s.2.2.1.length
  er : ∀ e ∈ s.2.2.2, n ≤ e.1 ∧ e.1 < e.2.1 ∧ e.2.1 < n + s.2.2.1.length
  nd : s.2.2.2.Pairwise Dk
theorem btz_mem {x i : Nat} : i ∈ btz x ↔ i < 32 ∧ x.testBit i = true := by unfold btz; rw [List.mem_filter, List.mem_range]
theorem btz_rise (x : Nat) : (btz x).Pairwise (· < ·) := by unfold btz; exact List.Pairwise.filter _ List.pairwise_lt_range
theorem jn_mem {y : Bool} {g : VQ} {a b : Nat} {e : EV} : e ∈ jn y g a b ↔ e.1 ∈ btz a ∧ e.2.1 ∈ btz b ∧ e.2.2 = (y, g) := by
  unfold jn jnO jnI
  rw [List.mem_flatMap]
  constructor
  · rintro ⟨f, hf, h⟩
    obtain ⟨t, ht, rfl⟩ := List.mem_map.1 h
    exact ⟨hf, ht, rfl⟩
  · rintro ⟨h1, h2, h3⟩
    exact ⟨e.1, h1, List.mem_map.2 ⟨e.2.1, h2, by rw [← h3]⟩⟩
theorem jn_dk (y : Bool) (g : VQ) (a b : Nat) : (jn y g a b).Pairwise Dk := by
  unfold jn jnO jnI
  rw [List.pairwise_flatMap]
  refine ⟨fun f _ => ?_, ?_⟩
  · rw [List.pairwise_map]
    exact (btz_rise b).imp fun {x z} h e => by have := e.2; simp only at this; omega
  · refine (btz_rise a).imp fun {f f'} hlt => ?_
    intro p hp q hq e
    obtain ⟨_, _, rfl⟩ := List.mem_map.1 hp
    obtain ⟨_, _, rfl⟩ := List.mem_map.1 hq
    have := e.1
    simp only at this
    omega
theorem jn_len (y : Bool) (g : VQ) (a b : Nat) : (jn y g a b).length ≤ 1024 := by
  have h1 := jnO_len y g b (btz a)
  have h2 := btz_len a
  unfold jn
  omega
theorem or_ne' {a b : Nat} (h : b ≠ 0) : a ||| b ≠ 0 := fun e => h (Nat.or_eq_zero_iff.1 e).2
structure Oi (n : Nat) (s : Res) : Prop where
  fr : ∀ i, s.1.testBit i = true → n ≤ i ∧ i < n + s.2.2.1.length
  lr : ∀ i, s.2.1.testBit i = true → n ≤ i ∧ i < n + s.2.2.1.length
  er : ∀ e ∈ s.2.2.2, n ≤ e.1 ∧ e.1 < e.2.1 ∧ e.2.1 < n + s.2.2.1.length
  nd : s.2.2.2.Pairwise Dk
theorem oi_step (f : List Nd → Nat → Res) (n : Nat) (s : Res) (p : List Nd) (h : Oi n s) (hp : Ok2 (n + s.2.2.1.length) (f p (n + s.2.2.1.length))) : Oi n (eis f n s p) ∧ (eis f n s p).1 ≠ 0 ∧ (eis f n s p).2.1 ≠ 0 := by
  unfold eis
  refine ⟨⟨fun i hi => ?_, fun i hi => ?_, fun e he => ?_, ?_⟩, or_ne' hp.f0, or_ne' hp.l0⟩
  · simp only [List.length_append] at hi ⊢
    rw [Nat.testBit_or, Bool.or_eq_true] at hi
    rcases hi with hi | hi
    · have := h.fr i hi; omega
    · have := hp.fr i hi; omega
  · simp only [List.length_append] at hi ⊢
    rw [Nat.testBit_or, Bool.or_eq_true] at hi
    rcases hi with hi | hi
    · have := h.lr i hi; omega
    · have := hp.lr i hi; omega
  · simp only [List.length_append] at he ⊢
    rcases List.mem_append.1 he with he | he
    · have := h.er e he; omega
    · have := hp.er e he; omega
  · simp only
    rw [List.pairwise_append]
    refine ⟨h.nd, hp.nd, fun a ha b hb e => ?_⟩
    have h1 := h.er a ha
    have h2 := hp.er b hb
    have := e.1
    omega
theorem ei_ok (f : List Nd → Nat → Res) (n : Nat) (ps : List (List Nd)) (h : ∀ p ∈ ps, ∀ n, Ok2 n (f p n)) : ∀ s : Res, Oi n s → (ps ≠ [] ∨ s.1 ≠ 0 ∧ s.2.1 ≠ 0) → Ok2 n (ps.foldl (eis f n) s) := by
  induction ps with
  | nil =>
    intro s hs h0
    rcases h0 with h0 | h0
    · exact absurd rfl h0
    · exact ⟨h0.1, h0.2, hs.fr, hs.lr, hs.er, hs.nd⟩
  | cons p ps ih =>
    intro s hs _
    obtain ⟨h1, h2, h3⟩ := oi_step f n s p hs (h p (List.mem_cons_self ..) _)
    exact ih (fun q hq => h q (List.mem_cons_of_mem _ hq)) _ h1 (.inr ⟨h2, h3⟩)
structure Oc (n : Nat) (least : Nat) (s : Cs) : Prop where
  fr : ∀ i, s.fi.testBit i = true → n ≤ i ∧ i < n + s.P.length
  lr : ∀ i, s.la.testBit i = true → n ≤ i ∧ i < n + s.P.length
  ar : ∀ i, s.al.testBit i = true → n ≤ i ∧ i < n + s.P.length
  er : ∀ e ∈ s.E, n ≤ e.1 ∧ e.1 < e.2.1 ∧ e.2.1 < n + s.P.length
  nd : s.E.Pairwise Dk
  f0 : 0 < s.i → s.fi ≠ 0
  l0 : 0 < s.i → least ≤ s.i → s.la ≠ 0
theorem oc_step (f : List Nd → Nat → Res) (n : Nat) (y : Bool) (g : VQ) (least : Nat) (s : Cs) (p : List Nd) (h : Oc n least s) (hp : Ok2 (n + s.P.length) (f p (n + s.P.length))) : Oc n least (cst f n y g least s p) := by
  unfold cst
  refine ⟨fun i hi => ?_, fun i hi => ?_, fun i hi => ?_, fun e he => ?_, ?_, fun _ => ?_, fun _ hl => ?_⟩
  · simp only [List.length_append] at hi ⊢
    by_cases c : s.i = 0
    · rw [if_pos c] at hi; have := hp.fr i hi; omega
    · rw [if_neg c] at hi; have := h.fr i hi; omega
  · simp only [List.length_append] at hi ⊢
    by_cases c : least ≤ s.i + 1
    · rw [if_pos c, Nat.testBit_or, Bool.or_eq_true] at hi
      rcases hi with hi | hi
      · have := h.lr i hi; omega
      · have := hp.lr i hi; omega
    · rw [if_neg c] at hi; have := h.lr i hi; omega
  · simp only [List.length_append] at hi ⊢
    have := hp.lr i hi
    omega
  · simp only [List.length_append] at he ⊢
    rcases List.mem_append.1 he with he | he
    · rcases List.mem_append.1 he with he | he
      · have := h.er e he; omega
      · have := hp.er e he; omega
    · obtain ⟨h1, h2, _⟩ := jn_mem.1 he
      have h3 := h.ar _ (btz_mem.1 h1).2
      have h4 := hp.fr _ (btz_mem.1 h2).2
      omega
  · simp only
    rw [List.pairwise_append, List.pairwise_append]
    refine ⟨⟨h.nd, hp.nd, fun a ha b hb e => ?_⟩, jn_dk _ _ _ _, fun a ha b hb e => ?_⟩
    · have h1 := h.er a ha
      have h2 := hp.er b hb
      have := e.1
      omega
    · obtain ⟨h1, h2, _⟩ := jn_mem.1 hb
      have h3 := h.ar _ (btz_mem.1 h1).2
      have h4 := hp.fr _ (btz_mem.1 h2).2
      have e1 := e.1
      have e2 := e.2
      rcases List.mem_append.1 ha with ha | ha
      · have := h.er a ha; omega
      · have := hp.er a ha; omega
  · by_cases c : s.i = 0
    · simp only [if_pos c]; exact hp.f0
    · simp only [if_neg c]; exact h.f0 (by omega)
  · simp only at hl ⊢
    rw [if_pos hl]
    exact or_ne' hp.l0
theorem oc_fold (f : List Nd → Nat → Res) (n : Nat) (y : Bool) (g : VQ) (least : Nat) (ps : List (List Nd)) (h : ∀ p ∈ ps, ∀ n, Ok2 n (f p n)) : ∀ s : Cs, Oc n least s → Oc n least (ps.foldl (cst f n y g least) s) := by
  induction ps with
  | nil => intro s hs; exact hs
  | cons p ps ih => intro s hs; exact ih (fun q hq => h q (List.mem_cons_of_mem _ hq)) _ (oc_step f n y g least s p hs (h p (List.mem_cons_self ..) _))
theorem ch_ok (f : List Nd → Nat → Res) (n : Nat) (y : Bool) (g : VQ) (least : Nat) (ps : List (List Nd)) (h : ∀ p ∈ ps, ∀ n, Ok2 n (f p n)) (hne : ps ≠ []) (hl : least ≤ ps.length) : Ok2 n (ch f n y g least ps) := by
  have h0 : Oc n least cs0 := ⟨by simp [cs0], by simp [cs0], by simp [cs0], by simp [cs0], by simp [cs0], by simp [cs0], by simp [cs0]⟩
  have hc := oc_fold f n y g least ps h cs0 h0
  have hi := cst_i f n y g least ps cs0
  have hp : 0 < ps.length := List.length_pos_iff.2 hne
  rw [show cs0.i = 0 from rfl, Nat.zero_add] at hi
  exact ⟨hc.f0 (by rw [hi]; exact hp), hc.l0 (by rw [hi]; exact hp) (by rw [hi]; exact hl), hc.fr, hc.lr, hc.er, hc.nd⟩
theorem au_ok (k : Nat) : ∀ (l : List Nd), fmd k l = true → frn l = l → ∀ n, Ok2 n (au k l n) := by
  induction k with
  | zero => intro l h; cases h
  | succ k ih =>
    intro l h hf n
    unfold fmd at h
    rw [Bool.and_eq_true] at h
    obtain ⟨x, q, ps, h1, h2, h3, h4⟩ := ofp_spl h.1
    have hk := kd_k h.2
    have hm := h.2
    have IH : ∀ p ∈ pts l, ∀ n, Ok2 n (au k p n) := fun p hp => ih p (List.all_eq_true.1 h4 p (by rw [← h3]; exact hp)) (pts_mem p hp).2.1
    unfold au
    rcases hk with hk | hk | hk | hk
    · rw [if_neg (by omega), if_neg (by omega), if_neg (by omega)]
      refine ⟨Nat.ne_of_gt (Nat.two_pow_pos n), Nat.ne_of_gt (Nat.two_pow_pos n), fun i hi => ?_, fun i hi => ?_, by simp, by simp⟩
      all_goals
        rw [Nat.testBit_two_pow, decide_eq_true_eq] at hi
        simp only [List.length_singleton]
        omega
    · rw [if_pos hk]
      have := kd_m2 hm (.inl hk)
      exact ch_ok (au k) n _ _ _ _ IH (fun e => by rw [e] at this; simp at this) (Nat.le_refl _)
    · rw [if_neg (by omega), if_pos hk]
      have := kd_m2 hm (.inr hk)
      exact ei_ok (au k) n _ IH _ ⟨by simp, by simp, by simp, by simp⟩ (.inl (fun e => by rw [e] at this; simp at this))
    · rw [if_neg (by omega), if_neg (by omega), if_pos hk]
      obtain ⟨m1, m2, m3, m4⟩ := kd_rep hm hk
      obtain ⟨p0, hp0⟩ : ∃ p, pts l = [p] := List.length_eq_one_iff.1 m1
      rw [hp0, List.headD_cons]
      have hp : p0 ∈ pts l := by rw [hp0]; simp
      refine ch_ok (au k) n _ _ _ _ (fun p h n => by rw [(List.mem_replicate.1 h).2]; exact IH p0 hp n) (fun e => ?_) (by rw [List.length_replicate]; omega)
      have := congrArg List.length e
      rw [List.length_replicate] at this
      simp only [List.length_nil] at this
      omega
end Go.Proofs.YtpnllbojifnopaaGreatDoor
namespace Go.Proofs.YtpnllbojifnopaaGreatDoor
open Go Go.RowKit Pk Rl
set_option maxRecDepth 20000
theorem spl_flat {l : List Nd} {ps : List (List Nd)} (h : spl l = some ps) : ps.flatten = l := by
  generalize hk : l.length = k
  induction k using Nat.strongRecOn generalizing l ps with
  | _ k ih =>
    by_cases hl : l = []
    · subst hl; rw [spl_nil] at h; injection h with h; subst h; rfl
    · rw [spl_cons l hl] at h
      by_cases hf : frn l = []
      · rw [if_pos hf] at h; cases h
      · rw [if_neg hf] at h
        obtain ⟨qs, hq, rfl⟩ := Option.map_eq_some_iff.1 h
        have h0 : (frn l).length ≠ 0 := fun e => hf (List.eq_nil_of_length_eq_zero e)
        have hlt : (l.drop (frn l).length).length < k := by
          rw [List.length_drop]
          have : l.length ≠ 0 := fun e => hl (List.eq_nil_of_length_eq_zero e)
          omega
        rw [List.flatten_cons, ih _ hlt hq rfl]
        conv => lhs; arg 1; rw [frn_take l hf]
        exact List.take_append_drop _ _
theorem fold_max (g : List Nd → Int) (ps : List (List Nd)) : ∀ m : Int, m ≤ ps.foldl (fun m p => max m (1 + g p)) m ∧ ∀ p ∈ ps, 1 + g p ≤ ps.foldl (fun m p => max m (1 + g p)) m := by
  induction ps with
  | nil => intro m; exact ⟨Int.le_refl _, by simp⟩
  | cons q ps ih =>
    intro m
    obtain ⟨h1, h2⟩ := ih (max m (1 + g q))
    rw [List.foldl_cons]
    refine ⟨by omega, fun p hp => ?_⟩
    rcases List.mem_cons.1 hp with rfl | hp
    · omega
    · exact h2 p hp
theorem sum_rep (c : List Nd → Nat) (p : List Nd) (h : Nat) : ((List.replicate h p).map c).sum = h * c p := by
  induction h with
  | zero => simp
  | succ h ih => rw [List.replicate_succ, List.map_cons, List.sum_cons, ih, Nat.add_mul, Nat.one_mul, Nat.add_comm]
theorem sum_le (c : List Nd → Nat) (M : Nat) (ps : List (List Nd)) (h : ∀ p ∈ ps, c p ≤ p.length * M) : (ps.map c).sum ≤ ps.flatten.length * M := by
  induction ps with
  | nil => simp
  | cons p ps ih =>
    rw [List.map_cons, List.sum_cons, List.flatten_cons, List.length_append, Nat.add_mul]
    have := h p (List.mem_cons_self ..)
    have := ih (fun q hq => h q (List.mem_cons_of_mem _ hq))
    omega
theorem sum_pos (c : List Nd → Nat) (ps : List (List Nd)) (hne : ps ≠ []) (h : ∀ p ∈ ps, 1 ≤ c p) : 1 ≤ (ps.map c).sum := by
  rcases ps with _ | ⟨p, ps⟩
  · exact absurd rfl hne
  · rw [List.map_cons, List.sum_cons]
    have := h p (List.mem_cons_self ..)
    omega
theorem ei_cnt (f : List Nd → Nat → Res) (c : List Nd → Nat) (M : Nat) (n : Nat) (ps : List (List Nd)) (h : ∀ p ∈ ps, ∀ n, (f p n).2.2.1.length = c p ∧ (f p n).2.2.2.length + 1024 ≤ M * c p) :
    ∀ s : Res, (ps.foldl (eis f n) s).2.2.1.length = s.2.2.1.length + (ps.map c).sum ∧ (ps.foldl (eis f n) s).2.2.2.length ≤ s.2.2.2.length + M * (ps.map c).sum := by
  induction ps with
  | nil => intro s; simp
  | cons p ps ih =>
    intro s
    obtain ⟨h1, h2⟩ := ih (fun q hq => h q (List.mem_cons_of_mem _ hq)) (eis f n s p)
    obtain ⟨h3, h4⟩ := h p (List.mem_cons_self ..) (n + s.2.2.1.length)
    rw [List.foldl_cons, List.map_cons, List.sum_cons, Nat.mul_add]
    have e1 : (eis f n s p).2.2.1.length = s.2.2.1.length + (f p (n + s.2.2.1.length)).2.2.1.length := by unfold eis; simp
    have e2 : (eis f n s p).2.2.2.length = s.2.2.2.length + (f p (n + s.2.2.1.length)).2.2.2.length := by unfold eis; simp
    omega
theorem ch_cnt (f : List Nd → Nat → Res) (c : List Nd → Nat) (M : Nat) (n : Nat) (y : Bool) (g : VQ) (least : Nat) (ps : List (List Nd)) (h : ∀ p ∈ ps, ∀ n, (f p n).2.2.1.length = c p ∧ (f p n).2.2.2.length + 1024 ≤ M * c p) :
    ∀ s : Cs, (ps.foldl (cst f n y g least) s).P.length = s.P.length + (ps.map c).sum ∧ (ps.foldl (cst f n y g least) s).E.length ≤ s.E.length + M * (ps.map c).sum := by
  induction ps with
  | nil => intro s; simp
  | cons p ps ih =>
    intro s
    obtain ⟨h1, h2⟩ := ih (fun q hq => h q (List.mem_cons_of_mem _ hq)) (cst f n y g least s p)
    obtain ⟨h3, h4⟩ := h p (List.mem_cons_self ..) (n + s.P.length)
    rw [List.foldl_cons, List.map_cons, List.sum_cons, Nat.mul_add]
    have e1 : (cst f n y g least s p).P.length = s.P.length + (f p (n + s.P.length)).2.2.1.length := by unfold cst; simp
    have e2 : (cst f n y g least s p).E.length = s.E.length + (f p (n + s.P.length)).2.2.2.length + (jn y g s.al (f p (n + s.P.length)).1).length := by unfold cst; simp [Nat.add_assoc]
    have := jn_len y g s.al (f p (n + s.P.length)).1
    omega
theorem wrap_add (a b : Int) : wrap64 (wrap64 a + wrap64 b) = wrap64 (a + b) := by unfold wrap64; omega
theorem wrap_id (n : Int) (h0 : 0 ≤ n) (h1 : n < 9223372036854775808) : wrap64 n = n := by unfold wrap64; omega
theorem wrap_off (x z : Int) : wrap64 (x - 18446744073709551616 * z) = wrap64 x := by
  unfold wrap64
  rw [show x - 18446744073709551616 * z + 9223372036854775808 = x + 9223372036854775808 + 18446744073709551616 * (-z) by omega, Int.add_mul_emod_self_left]
theorem wrap_mul (a b : Int) : wrap64 (wrap64 a * b) = wrap64 (a * b) := by
  obtain ⟨q, hq⟩ : ∃ q : Int, wrap64 a = a - 18446744073709551616 * q := ⟨(a + 9223372036854775808) / 18446744073709551616, by unfold wrap64; omega⟩
  rw [hq, Int.sub_mul, Int.mul_assoc, wrap_off]
theorem plc_fold (k : Nat) (ps : List (List Nd)) (h : ∀ p ∈ ps, plc k p = wrap64 (cnt k p : Int)) : ∀ a : Nat, ps.foldl (fun m p => wrap64 (m + plc k p)) (wrap64 (a : Int)) = wrap64 ((a + (ps.map (cnt k)).sum : Nat) : Int) := by
  induction ps with
  | nil => intro a; rw [List.foldl_nil, List.map_nil, List.sum_nil, Nat.add_zero]
  | cons p ps ih =>
    intro a
    have e : (a : Int) + (cnt k p : Int) = ((a + cnt k p : Nat) : Int) := (Int.natCast_add a (cnt k p)).symm
    have e2 : wrap64 (wrap64 (a : Int) + plc k p) = wrap64 ((a + cnt k p : Nat) : Int) := by rw [h p (List.mem_cons_self ..), wrap_add, e]
    rw [List.foldl_cons, e2, ih (fun q hq => h q (List.mem_cons_of_mem _ hq)), List.map_cons, List.sum_cons, Nat.add_assoc]
structure Cn (k : Nat) (l : List Nd) : Prop where
  p : ∀ n, (au k l n).2.2.1.length = cnt k l
  e : ∀ n, (au k l n).2.2.2.length ≤ 1024 * k * cnt k l
  pos : 1 ≤ cnt k l
  w : plc k l = wrap64 (cnt k l : Int)
  d : cnt k l ≤ l.length * 8 ^ (dpt k l).toNat
theorem au_cn (k : Nat) : ∀ (l : List Nd), fmd k l = true → frn l = l → Cn k l := by
  induction k with
  | zero => intro l h; cases h
  | succ k ih =>
    intro l h hf
    unfold fmd at h
    rw [Bool.and_eq_true] at h
    obtain ⟨x, q, ps, h1, h2, h3, h4⟩ := ofp_spl h.1
    rw [hf] at h1
    have hfl := spl_flat h2
    have hll : (pts l).flatten.length + 1 = l.length := by rw [h3, hfl, h1]; rfl
    have hk := kd_k h.2
    have hm := h.2
    have IH : ∀ p ∈ pts l, Cn k p := fun p hp => ih p (List.all_eq_true.1 h4 p (by rw [← h3]; exact hp)) (pts_mem p hp).2.1
    have hbase : ∀ p ∈ pts l, ∀ n, (au k p n).2.2.1.length = cnt k p ∧ (au k p n).2.2.2.length + 1024 ≤ (1024 * (k + 1)) * cnt k p := fun p hp n => ⟨(IH p hp).p n, by
      have h5 := (IH p hp).e n
      have h6 := (IH p hp).pos
      have e : 1024 * (k + 1) * cnt k p = 1024 * k * cnt k p + 1024 * cnt k p := by rw [Nat.mul_add, Nat.add_mul, Nat.mul_one]
      omega⟩
    have hD : ∀ p ∈ pts l, cnt k p ≤ p.length * 8 ^ ((dpt (k + 1) l).toNat - 1) := fun p hp => by
      refine Nat.le_trans (IH p hp).d (Nat.mul_le_mul_left _ (Nat.pow_le_pow_right (by omega) ?_))
      have h5 := (fold_max (dpt k) (pts l) 0).2 p hp
      have h6 := (dpt_pos k p).1
      have h7 : dpt (k + 1) l = (pts l).foldl (fun m p => max m (1 + dpt k p)) 0 := rfl
      omega
    have hS := sum_le (cnt k) _ (pts l) hD
    have hS2 : ((pts l).map (cnt k)).sum ≤ l.length * 8 ^ ((dpt (k + 1) l).toNat - 1) := Nat.le_trans hS (Nat.mul_le_mul_right _ (by omega))
    have hPos := fun hne => sum_pos (cnt k) (pts l) hne (fun p hp => (IH p hp).pos)
    have hW := plc_fold k (pts l) (fun p hp => (IH p hp).w) 0
    rw [Nat.zero_add, wrap_id ((0 : Nat) : Int) (by omega) (by omega), show ((0 : Nat) : Int) = 0 from rfl] at hW
    have hDp : ∀ p ∈ pts l, 1 ≤ (dpt (k + 1) l).toNat := fun p hp => by
      have h5 := (fold_max (dpt k) (pts l) 0).2 p hp
      have h6 := (dpt_pos k p).1
      have h7 : dpt (k + 1) l = (pts l).foldl (fun m p => max m (1 + dpt k p)) 0 := rfl
      omega
    have hup : l.length * 8 ^ ((dpt (k + 1) l).toNat - 1) ≤ l.length * 8 ^ (dpt (k + 1) l).toNat := Nat.mul_le_mul_left _ (Nat.pow_le_pow_right (by omega) (by omega))
    rcases hk with hk | hk | hk | hk
    · have hc : cnt (k + 1) l = 1 := by unfold cnt; rw [if_pos hk]
      have ha : ∀ n, au (k + 1) l n = (2 ^ n, 2 ^ n, [vq (l.headD nz).p], []) := fun n => by unfold au; rw [if_neg (by omega), if_neg (by omega), if_neg (by omega)]
      refine ⟨fun n => by rw [ha, hc]; rfl, fun n => by rw [ha]; exact Nat.zero_le _, by rw [hc]; exact Nat.le_refl _, ?_, ?_⟩
      · unfold plc
        rw [if_pos hk, hc, wrap_id ((1 : Nat) : Int) (by omega) (by omega)]
        rfl
      · rw [hc]
        have : 0 < l.length * 8 ^ (dpt (k + 1) l).toNat := Nat.mul_pos (by omega) (Nat.pow_pos (by omega))
        exact this
    · have hc : cnt (k + 1) l = ((pts l).map (cnt k)).sum := by unfold cnt; rw [if_neg (by omega), if_neg (by omega)]
      have h5 := kd_m2 hm (.inl hk)
      have hne : pts l ≠ [] := fun e => by rw [e] at h5; simp at h5
      have ha : ∀ n, au (k + 1) l n = ch (au k) n (l.headD nz).y (vq (l.headD nz).g) (pts l).length (pts l) := fun n => by rw [au, if_pos hk]
      have hcc := fun n => ch_cnt (au k) (cnt k) _ n (l.headD nz).y (vq (l.headD nz).g) (pts l).length (pts l) hbase cs0
      refine ⟨fun n => ?_, fun n => ?_, by rw [hc]; exact hPos hne, ?_, by rw [hc]; exact Nat.le_trans hS2 hup⟩
      · rw [ha, hc]; have := (hcc n).1; unfold ch chf; simpa [cs0] using this
      · rw [ha, hc]; have := (hcc n).2; unfold ch chf; simpa [cs0] using this
      · rw [plc, if_neg (by omega), hc]
        simp only [if_neg (show ¬ (l.headD nz).k = 4 by omega)]
        exact hW
    · have hc : cnt (k + 1) l = ((pts l).map (cnt k)).sum := by unfold cnt; rw [if_neg (by omega), if_neg (by omega)]
      have h5 := kd_m2 hm (.inr hk)
      have hne : pts l ≠ [] := fun e => by rw [e] at h5; simp at h5
      have ha : ∀ n, au (k + 1) l n = ei (au k) n (pts l) := fun n => by rw [au, if_neg (by omega), if_pos hk]
      have hcc := fun n => ei_cnt (au k) (cnt k) _ n (pts l) hbase (0, 0, [], [])
      refine ⟨fun n => ?_, fun n => ?_, by rw [hc]; exact hPos hne, ?_, by rw [hc]; exact Nat.le_trans hS2 hup⟩
      · rw [ha, hc]; have := (hcc n).1; unfold ei; simpa using this
      · rw [ha, hc]; have := (hcc n).2; unfold ei; simpa using this
      · rw [plc, if_neg (by omega), hc]
        simp only [if_neg (show ¬ (l.headD nz).k = 4 by omega)]
        exact hW
    · obtain ⟨m1, m2, m3, m4⟩ := kd_rep hm hk
      obtain ⟨p0, hp0⟩ : ∃ p, pts l = [p] := List.length_eq_one_iff.1 m1
      obtain ⟨hh, hhe⟩ := Int.eq_ofNat_of_zero_le (show 0 ≤ (l.headD nz).hi by omega)
      have hhe2 : (l.headD nz).hi.toNat = hh := by rw [hhe]; rfl
      have hh8 : 1 ≤ hh ∧ hh ≤ 8 := by omega
      have hc : cnt (k + 1) l = cnt k p0 * hh := by rw [cnt, if_neg (by omega), if_pos hk, hhe2, hp0]; simp
      have hp : p0 ∈ pts l := by rw [hp0]; simp
      have ha : ∀ n, au (k + 1) l n = ch (au k) n (l.headD nz).y (vq (l.headD nz).g) (l.headD nz).lo.toNat (List.replicate hh p0) := fun n => by rw [au, if_neg (by omega), if_neg (by omega), if_pos hk, hhe2, hp0]; rfl
      have hcc := fun n => ch_cnt (au k) (cnt k) _ n (l.headD nz).y (vq (l.headD nz).g) (l.headD nz).lo.toNat (List.replicate hh p0) (fun p h n => by rw [(List.mem_replicate.1 h).2]; exact hbase p0 hp n) cs0
      have hpos := (IH p0 hp).pos
      refine ⟨fun n => ?_, fun n => ?_, ?_, ?_, ?_⟩
      · rw [ha, hc, Nat.mul_comm]; have := (hcc n).1; rw [sum_rep] at this; unfold ch chf; simpa [cs0] using this
      · rw [ha, hc, Nat.mul_comm (cnt k p0)]; have := (hcc n).2; rw [sum_rep] at this; unfold ch chf; simpa [cs0] using this
      · rw [hc]; exact Nat.mul_pos hpos hh8.1
      · rw [plc, if_neg (by omega)]
        simp only [if_pos hk]
        rw [hW, hp0, hc, hhe, Int.natCast_mul]
        simp only [List.map_cons, List.map_nil, List.sum_cons, List.sum_nil, Nat.add_zero]
        exact wrap_mul _ _
      · rw [hc]
        have h5 := hS2
        rw [hp0] at h5
        simp only [List.map_cons, List.map_nil, List.sum_cons, List.sum_nil, Nat.add_zero] at h5
        have h6 := hDp p0 hp
        have e8 : 8 ^ (dpt (k + 1) l).toNat = 8 ^ ((dpt (k + 1) l).toNat - 1) * 8 := by rw [← Nat.pow_succ]; congr 1; omega
        rw [e8, ← Nat.mul_assoc]
        exact Nat.mul_le_mul h5 hh8.2
end Go.Proofs.YtpnllbojifnopaaGreatDoor
namespace Go.Proofs.YtpnllbojifnopaaGreatDoor
open Go Go.RowKit Pk Rl
set_option maxRecDepth 20000
def bs (c : List Nd → Nat) : Nat → List (List Nd) → List (List Nd × Nat)
  | _, [] => []
  | n, p :: ps => (p, n) :: bs c (n + c p) ps
theorem bs_len (c : List Nd → Nat) (ps : List (List Nd)) : ∀ n, (bs c n ps).length = ps.length := by
  induction ps with
  | nil => intro n; rfl
  | cons p ps ih => intro n; simp [bs, ih]
theorem bs_mem (c : List Nd → Nat) (ps : List (List Nd)) : ∀ n, ∀ q ∈ bs c n ps, q.1 ∈ ps ∧ n ≤ q.2 ∧ q.2 + c q.1 ≤ n + (ps.map c).sum := by
  induction ps with
  | nil => intro n q hq; simp [bs] at hq
  | cons p ps ih =>
    intro n q hq
    rw [bs] at hq
    rcases List.mem_cons.1 hq with rfl | hq
    · refine ⟨List.mem_cons_self .., Nat.le_refl _, ?_⟩
      rw [List.map_cons, List.sum_cons]
      simp only
      omega
    · obtain ⟨h1, h2, h3⟩ := ih _ q hq
      refine ⟨List.mem_cons_of_mem _ h1, by omega, ?_⟩
      rw [List.map_cons, List.sum_cons]
      omega
abbrev d0 : List Nd × Nat := ([], 0)
theorem bs_get (c : List Nd → Nat) (ps : List (List Nd)) (n j : Nat) (hj : j < ps.length) : ((bs c n ps).getD j d0).1 ∈ ps ∧ n ≤ ((bs c n ps).getD j d0).2 ∧ ((bs c n ps).getD j d0).2 + c ((bs c n ps).getD j d0).1 ≤ n + (ps.map c).sum := by
  have hl : j < (bs c n ps).length := by rw [bs_len]; exact hj
  rw [List.getD_eq_getElem?_getD, List.getElem?_eq_getElem hl, Option.getD_some]
  exact bs_mem c ps n _ (List.getElem_mem hl)
theorem any_cons {α : Type} (G : Nat → α → Bool) (q : α) (qs : List α) (d : α) : ((List.range (q :: qs).length).any fun j => G j ((q :: qs).getD j d)) = (G 0 q || (List.range qs.length).any fun j => G (j + 1) (qs.getD j d)) := by
  rw [List.length_cons, List.range_succ_eq_map, List.any_cons, List.any_map]
  simp only [List.getD_cons_zero]
  rfl
theorem ex_cons {α : Type} (G : Nat → α → Prop) (q : α) (qs : List α) (d : α) : (∃ j, j < (q :: qs).length ∧ G j ((q :: qs).getD j d)) ↔ (G 0 q ∨ ∃ j, j < qs.length ∧ G (j + 1) (qs.getD j d)) := by
  constructor
  · rintro ⟨j, hj, h⟩
    cases j with
    | zero => exact .inl (by simpa using h)
    | succ j => exact .inr ⟨j, by simpa using hj, by simpa using h⟩
  · rintro (h | ⟨j, hj, h⟩)
    · exact ⟨0, by simp, by simpa using h⟩
    · exact ⟨j + 1, by simpa using hj, by simpa using h⟩
theorem ei_fi (f : List Nd → Nat → Res) (c : List Nd → Nat) (n i : Nat) (ps : List (List Nd)) (h : ∀ p ∈ ps, ∀ n, (f p n).2.2.1.length = c p) :
    ∀ s : Res, (ps.foldl (eis f n) s).1.testBit i = (s.1.testBit i || (List.range (bs c (n + s.2.2.1.length) ps).length).any fun j => (f ((bs c (n + s.2.2.1.length) ps).getD j d0).1 ((bs c (n + s.2.2.1.length) ps).getD j d0).2).1.testBit i) := by
  induction ps with
  | nil => intro s; simp [bs]
  | cons p ps ih =>
    intro s
    have hp := h p (List.mem_cons_self ..) (n + s.2.2.1.length)
    have e2 : n + (eis f n s p).2.2.1.length = n + s.2.2.1.length + c p := by unfold eis; simp only [List.length_append]; omega
    rw [List.foldl_cons, ih (fun q hq => h q (List.mem_cons_of_mem _ hq)), e2, bs, any_cons (fun _ (q : List Nd × Nat) => (f q.1 q.2).1.testBit i)]
    unfold eis
    simp only [Nat.testBit_or, Bool.or_assoc]
theorem ei_la (f : List Nd → Nat → Res) (c : List Nd → Nat) (n i : Nat) (ps : List (List Nd)) (h : ∀ p ∈ ps, ∀ n, (f p n).2.2.1.length = c p) :
    ∀ s : Res, (ps.foldl (eis f n) s).2.1.testBit i = (s.2.1.testBit i || (List.range (bs c (n + s.2.2.1.length) ps).length).any fun j => (f ((bs c (n + s.2.2.1.length) ps).getD j d0).1 ((bs c (n + s.2.2.1.length) ps).getD j d0).2).2.1.testBit i) := by
  induction ps with
  | nil => intro s; simp [bs]
  | cons p ps ih =>
    intro s
    have hp := h p (List.mem_cons_self ..) (n + s.2.2.1.length)
    have e2 : n + (eis f n s p).2.2.1.length = n + s.2.2.1.length + c p := by unfold eis; simp only [List.length_append]; omega
    rw [List.foldl_cons, ih (fun q hq => h q (List.mem_cons_of_mem _ hq)), e2, bs, any_cons (fun _ (q : List Nd × Nat) => (f q.1 q.2).2.1.testBit i)]
    unfold eis
    simp only [Nat.testBit_or, Bool.or_assoc]
theorem ei_E (f : List Nd → Nat → Res) (c : List Nd → Nat) (n : Nat) (e : EV) (ps : List (List Nd)) (h : ∀ p ∈ ps, ∀ n, (f p n).2.2.1.length = c p) :
    ∀ s : Res, e ∈ (ps.foldl (eis f n) s).2.2.2 ↔ (e ∈ s.2.2.2 ∨ ∃ j, j < (bs c (n + s.2.2.1.length) ps).length ∧ e ∈ (f ((bs c (n + s.2.2.1.length) ps).getD j d0).1 ((bs c (n + s.2.2.1.length) ps).getD j d0).2).2.2.2) := by
  induction ps with
  | nil => intro s; simp [bs]
  | cons p ps ih =>
    intro s
    have hp := h p (List.mem_cons_self ..) (n + s.2.2.1.length)
    have e2 : n + (eis f n s p).2.2.1.length = n + s.2.2.1.length + c p := by unfold eis; simp only [List.length_append]; omega
    rw [List.foldl_cons, ih (fun q hq => h q (List.mem_cons_of_mem _ hq)), e2, bs, ex_cons (fun _ (q : List Nd × Nat) => e ∈ (f q.1 q.2).2.2.2)]
    unfold eis
    simp only [List.mem_append, or_assoc]
theorem ch_fi (f : List Nd → Nat → Res) (n : Nat) (y : Bool) (g : VQ) (least : Nat) (ps : List (List Nd)) : ∀ s : Cs, 0 < s.i → (ps.foldl (cst f n y g least) s).fi = s.fi := by
  induction ps with
  | nil => intro s _; rfl
  | cons p ps ih =>
    intro s hs
    rw [List.foldl_cons, ih _ (by show 0 < s.i + 1; omega)]
    unfold cst
    simp only [if_neg (by omega : ¬ s.i = 0)]
theorem ch_la (f : List Nd → Nat → Res) (c : List Nd → Nat) (n i : Nat) (y : Bool) (g : VQ) (least : Nat) (ps : List (List Nd)) (h : ∀ p ∈ ps, ∀ n, (f p n).2.2.1.length = c p) :
    ∀ s : Cs, (ps.foldl (cst f n y g least) s).la.testBit i = (s.la.testBit i || (List.range (bs c (n + s.P.length) ps).length).any fun j => decide (least ≤ s.i + j + 1) && (f ((bs c (n + s.P.length) ps).getD j d0).1 ((bs c (n + s.P.length) ps).getD j d0).2).2.1.testBit i) := by
  induction ps with
  | nil => intro s; simp [bs]
  | cons p ps ih =>
    intro s
    have hp := h p (List.mem_cons_self ..) (n + s.P.length)
    have e2 : n + (cst f n y g least s p).P.length = n + s.P.length + c p := by unfold cst; simp only [List.length_append]; omega
    have e3 : ∀ j, (cst f n y g least s p).i + j + 1 = s.i + (j + 1) + 1 := fun j => by show s.i + 1 + j + 1 = _; omega
    rw [List.foldl_cons, ih (fun q hq => h q (List.mem_cons_of_mem _ hq)), e2, bs, any_cons (fun j (q : List Nd × Nat) => decide (least ≤ s.i + j + 1) && (f q.1 q.2).2.1.testBit i)]
    simp only [e3]
    unfold cst
    by_cases c1 : least ≤ s.i + 1
    · simp only [if_pos c1, Nat.testBit_or, Bool.or_assoc, Nat.add_zero, decide_eq_true c1, Bool.true_and]
    · simp only [if_neg c1, Nat.add_zero, decide_eq_false c1, Bool.false_and, Bool.false_or]
theorem ch_E (f : List Nd → Nat → Res) (c : List Nd → Nat) (n : Nat) (y : Bool) (g : VQ) (least : Nat) (e : EV) (ps : List (List Nd)) (h : ∀ p ∈ ps, ∀ n, (f p n).2.2.1.length = c p) :
    ∀ s : Cs, e ∈ (ps.foldl (cst f n y g least) s).E ↔ (e ∈ s.E ∨ ∃ j, j < (bs c (n + s.P.length) ps).length ∧ (e ∈ (f ((bs c (n + s.P.length) ps).getD j d0).1 ((bs c (n + s.P.length) ps).getD j d0).2).2.2.2
      ∨ e ∈ jn y g (if j = 0 then s.al else (f ((bs c (n + s.P.length) ps).getD (j - 1) d0).1 ((bs c (n + s.P.length) ps).getD (j - 1) d0).2).2.1) (f ((bs c (n + s.P.length) ps).getD j d0).1 ((bs c (n + s.P.length) ps).getD j d0).2).1)) := by
  induction ps with
  | nil => intro s; simp [bs]
  | cons p ps ih =>
    intro s
    have hp := h p (List.mem_cons_self ..) (n + s.P.length)
    have e2 : n + (cst f n y g least s p).P.length = n + s.P.length + c p := by unfold cst; simp only [List.length_append]; omega
    rw [List.foldl_cons, ih (fun q hq => h q (List.mem_cons_of_mem _ hq)), e2, bs]
    generalize bs c (n + s.P.length + c p) ps = qs
    have e3 : (cst f n y g least s p).al = (f p (n + s.P.length)).2.1 := rfl
    have e4 : e ∈ (cst f n y g least s p).E ↔ (e ∈ s.E ∨ e ∈ (f p (n + s.P.length)).2.2.2 ∨ e ∈ jn y g s.al (f p (n + s.P.length)).1) := by
      show e ∈ s.E ++ (f p (n + s.P.length)).2.2.2 ++ jn y g s.al (f p (n + s.P.length)).1 ↔ _
      simp only [List.mem_append, or_assoc]
    rw [e3, e4]
    constructor
    · rintro ((h1 | h1 | h1) | ⟨j, hj, h1⟩)
      · exact .inl h1
      · exact .inr ⟨0, by simp, .inl (by simpa using h1)⟩
      · exact .inr ⟨0, by simp, .inr (by simpa using h1)⟩
      · refine .inr ⟨j + 1, by simpa using hj, ?_⟩
        rcases h1 with h1 | h1
        · exact .inl (by simpa using h1)
        · refine .inr ?_
          rw [if_neg (by omega), List.getD_cons_succ, show j + 1 - 1 = j from rfl]
          cases j with
          | zero => simpa using h1
          | succ j => rw [List.getD_cons_succ]; simpa using h1
    · rintro (h1 | ⟨j, hj, h1⟩)
      · exact .inl (.inl h1)
      · cases j with
        | zero =>
          rcases h1 with h1 | h1
          · exact .inl (.inr (.inl (by simpa using h1)))
          · exact .inl (.inr (.inr (by simpa using h1)))
        | succ j =>
          refine .inr ⟨j, by simpa using hj, ?_⟩
          rcases h1 with h1 | h1
          · exact .inl (by simpa using h1)
          · refine .inr ?_
            rw [if_neg (by omega), List.getD_cons_succ, show j + 1 - 1 = j from rfl] at h1
            cases j with
            | zero => simpa using h1
            | succ j => rw [List.getD_cons_succ] at h1; simpa using h1
end Go.Proofs.YtpnllbojifnopaaGreatDoor
namespace Go.Proofs.YtpnllbojifnopaaGreatDoor
open Go Go.RowKit Pk Rl
set_option maxRecDepth 20000
def wps (l : List Nd) : List (List Nd) := if (l.headD nz).k = 4 then (List.replicate (l.headD nz).hi.toNat (pts l)).flatten else pts l
abbrev wp (k : Nat) (l : List Nd) (n : Nat) : List (List Nd × Nat) := bs (cnt k) n (wps l)
def wf : Nat → List Nd → Nat → Nat → Bool
  | 0, _, _, _ => false
  | k + 1, l, n, i => if (l.headD nz).k = 1 then decide (n = i) else (List.range (wp k l n).length).any fun j => wf k ((wp k l n).getD j d0).1 ((wp k l n).getD j d0).2 i && (decide (j = 0) || decide ((l.headD nz).k = 3))
def wend (l : List Nd) (m j : Nat) : Bool := decide (j + 1 = m) || (decide ((l.headD nz).k = 3) || (decide ((l.headD nz).k = 4) && decide ((l.headD nz).lo ≤ (j : Int) + 1)))
def wl : Nat → List Nd → Nat → Nat → Bool
  | 0, _, _, _ => false
  | k + 1, l, n, i => if (l.headD nz).k = 1 then decide (n = i) else (List.range (wp k l n).length).any fun j => wend l (wp k l n).length j && wl k ((wp k l n).getD j d0).1 ((wp k l n).getD j d0).2 i
def we : Nat → List Nd → Nat → Nat → Nat → Option Nd
  | 0, _, _, _, _ => none
  | k + 1, l, n, f, t => if (l.headD nz).k = 1 then none else (List.range (wp k l n).length).findSome? fun j =>
      (we k ((wp k l n).getD j d0).1 ((wp k l n).getD j d0).2 f t).or
        (if (l.headD nz).k ≠ 3 ∧ 0 < j ∧ wl k ((wp k l n).getD (j - 1) d0).1 ((wp k l n).getD (j - 1) d0).2 f = true ∧ wf k ((wp k l n).getD j d0).1 ((wp k l n).getD j d0).2 t = true then some (l.headD nz) else none)
structure Kw (k : Nat) (l : List Nd) : Prop where
  ne : wps l ≠ []
  sub : ∀ p ∈ wps l, fmd k p = true ∧ frn p = p
  cn : cnt (k + 1) l = ((wps l).map (cnt k)).sum
  aut : ∀ n, ((l.headD nz).k = 3 ∧ au (k + 1) l n = ei (au k) n (wps l)) ∨
    ((l.headD nz).k ≠ 3 ∧ ∃ least, au (k + 1) l n = ch (au k) n (l.headD nz).y (vq (l.headD nz).g) least (wps l) ∧ ∀ j, j < (wps l).length → wend l (wps l).length j = decide (least ≤ j + 1))
theorem kw_of {k : Nat} {l : List Nd} (h : fmd (k + 1) l = true) : ((l.headD nz).k = 1 ∧ pts l = []) ∨ ((l.headD nz).k ≠ 1 ∧ Kw k l) := by
  unfold fmd at h
  rw [Bool.and_eq_true] at h
  obtain ⟨x, q, ps, h1, h2, h3, h4⟩ := ofp_spl h.1
  have hk := kd_k h.2
  have hm := h.2
  have SUB : ∀ p ∈ pts l, fmd k p = true ∧ frn p = p := fun p hp => ⟨List.all_eq_true.1 h4 p (by rw [← h3]; exact hp), (pts_mem p hp).2.1⟩
  rcases hk with hk | hk | hk | hk
  · refine .inl ⟨hk, ?_⟩
    unfold kd at hm
    rw [if_pos hk] at hm
    simp only [Bool.and_eq_true, decide_eq_true_eq] at hm
    exact List.eq_nil_of_length_eq_zero hm.1.1.1.1
  · have hw : wps l = pts l := by unfold wps; rw [if_neg (by omega)]
    have := kd_m2 hm (.inl hk)
    refine .inr ⟨by omega, fun e => ?_, by rw [hw]; exact SUB, ?_, fun n => .inr ⟨by omega, (pts l).length, ?_, fun j hj => ?_⟩⟩
    · rw [← hw, e] at this
      simp at this
    · rw [hw]
      show (if (l.headD nz).k = 1 then 1 else if (l.headD nz).k = 4 then _ else _) = _
      rw [if_neg (by omega), if_neg (by omega)]
    · rw [hw]
      show (if (l.headD nz).k = 2 then _ else _) = _
      rw [if_pos hk]
    · rw [hw] at hj ⊢
      unfold wend
      rw [decide_eq_false (by omega : ¬ (l.headD nz).k = 3), decide_eq_false (by omega : ¬ (l.headD nz).k = 4)]
      simp only [Bool.false_and, Bool.or_false]
      exact decide_eq_decide.2 ⟨by omega, by omega⟩
  · have hw : wps l = pts l := by unfold wps; rw [if_neg (by omega)]
    have := kd_m2 hm (.inr hk)
    refine .inr ⟨by omega, fun e => ?_, by rw [hw]; exact SUB, ?_, fun n => .inl ⟨hk, ?_⟩⟩
    · rw [← hw, e] at this
      simp at this
    · rw [hw]
      show (if (l.headD nz).k = 1 then 1 else if (l.headD nz).k = 4 then _ else _) = _
      rw [if_neg (by omega), if_neg (by omega)]
    · rw [hw]
      show (if (l.headD nz).k = 2 then _ else if (l.headD nz).k = 3 then _ else _) = _
      rw [if_neg (by omega), if_pos hk]
  · obtain ⟨m1, m2, m3, m4⟩ := kd_rep hm hk
    obtain ⟨p0, hp0⟩ : ∃ p, pts l = [p] := List.length_eq_one_iff.1 m1
    have hw : wps l = List.replicate (l.headD nz).hi.toNat p0 := by
      unfold wps
      rw [if_pos hk, hp0]
      generalize (l.headD nz).hi.toNat = m
      induction m with
      | zero => rfl
      | succ m ih => rw [List.replicate_succ, List.flatten_cons, ih, List.replicate_succ]; rfl
    have hlen : (wps l).length = (l.headD nz).hi.toNat := by rw [hw, List.length_replicate]
    refine .inr ⟨by omega, fun e => ?_, fun p hp => ?_, ?_, fun n => .inr ⟨by omega, (l.headD nz).lo.toNat, ?_, fun j hj => ?_⟩⟩
    · rw [e] at hlen
      simp only [List.length_nil] at hlen
      omega
    · rw [hw] at hp
      rw [(List.mem_replicate.1 hp).2]
      exact SUB p0 (by rw [hp0]; simp)
    · rw [hw, sum_rep]
      show (if (l.headD nz).k = 1 then 1 else if (l.headD nz).k = 4 then _ else _) = _
      rw [if_neg (by omega), if_pos hk, hp0]
      simp [Nat.mul_comm]
    · rw [hw]
      show (if (l.headD nz).k = 2 then _ else if (l.headD nz).k = 3 then _ else if (l.headD nz).k = 4 then _ else _) = _
      rw [if_neg (by omega), if_neg (by omega), if_pos hk, hp0, List.headD_cons]
    · rw [hlen] at hj ⊢
      unfold wend
      rw [decide_eq_false (by omega : ¬ (l.headD nz).k = 3), decide_eq_true hk]
      simp only [Bool.true_and, Bool.false_or]
      by_cases c : (l.headD nz).lo ≤ (j : Int) + 1
      · rw [decide_eq_true c, Bool.or_true, decide_eq_true (by omega)]
      · rw [decide_eq_false c, Bool.or_false, decide_eq_false (by omega : ¬ (l.headD nz).lo.toNat ≤ j + 1)]
        exact decide_eq_false (by omega)
theorem any_congr {N : Nat} {G H : Nat → Bool} (h : ∀ j, j < N → G j = H j) : (List.range N).any G = (List.range N).any H := by
  rw [Bool.eq_iff_iff, List.any_eq_true, List.any_eq_true]
  constructor
  · rintro ⟨j, hj, e⟩; exact ⟨j, hj, by rw [← h j (List.mem_range.1 hj)]; exact e⟩
  · rintro ⟨j, hj, e⟩; exact ⟨j, hj, by rw [h j (List.mem_range.1 hj)]; exact e⟩
theorem Kw.len {k : Nat} {l : List Nd} (h : Kw k l) : ∀ p ∈ wps l, ∀ n, (au k p n).2.2.1.length = cnt k p := fun p hp n => (au_cn k p (h.sub p hp).1 (h.sub p hp).2).p n
theorem wf_au (k : Nat) : ∀ l : List Nd, fmd k l = true → frn l = l → ∀ n i, (au k l n).1.testBit i = wf k l n i := by
  induction k with
  | zero => intro l h; cases h
  | succ k ih =>
    intro l h hf n i
    rcases kw_of h with ⟨h1, _⟩ | ⟨h1, K⟩
    · unfold wf au
      rw [if_pos h1, if_neg (by omega), if_neg (by omega), if_neg (by omega)]
      simp only
      rw [Nat.testBit_two_pow]
    · have IH : ∀ p ∈ wps l, ∀ n, (au k p n).1.testBit i = wf k p n i := fun p hp n => ih p (K.sub p hp).1 (K.sub p hp).2 n i
      unfold wf
      rw [if_neg h1]
      rcases K.aut n with ⟨h3, e⟩ | ⟨h3, least, e, _⟩
      · rw [e]
        unfold ei
        rw [ei_fi (au k) (cnt k) n i (wps l) K.len]
        simp only [List.length_nil, Nat.add_zero, Nat.zero_testBit, Bool.false_or, decide_eq_true h3, Bool.or_true, Bool.and_true]
        refine any_congr fun j hj => ?_
        rw [bs_len] at hj
        exact IH _ (bs_get _ _ _ _ hj).1 _
      · rw [e]
        show (chf (au k) n _ _ _ _).fi.testBit i = _
        unfold chf
        obtain ⟨p, ps, hps⟩ := List.exists_cons_of_ne_nil K.ne
        unfold wp
        rw [hps, List.foldl_cons, ch_fi _ _ _ _ _ _ _ (by show 0 < 0 + 1; omega), bs, any_cons (fun j (q : List Nd × Nat) => wf k q.1 q.2 i && (decide (j = 0) || decide ((l.headD nz).k = 3)))]
        have e2 : (List.range (bs (cnt k) (n + cnt k p) ps).length).any (fun j => wf k ((bs (cnt k) (n + cnt k p) ps).getD j d0).1 ((bs (cnt k) (n + cnt k p) ps).getD j d0).2 i && (decide (j + 1 = 0) || decide ((l.headD nz).k = 3))) = false := by
          rw [List.any_eq_false]
          intro j _
          rw [decide_eq_false h3, decide_eq_false (by omega : ¬ j + 1 = 0)]
          simp
        rw [e2, Bool.or_false]
        simp only [decide_true, Bool.true_or, Bool.and_true]
        exact IH p (by rw [hps]; simp) n
theorem wl_au (k : Nat) : ∀ l : List Nd, fmd k l = true → frn l = l → ∀ n i, (au k l n).2.1.testBit i = wl k l n i := by
  induction k with
  | zero => intro l h; cases h
  | succ k ih =>
    intro l h hf n i
    rcases kw_of h with ⟨h1, _⟩ | ⟨h1, K⟩
    · unfold wl au
      rw [if_pos h1, if_neg (by omega), if_neg (by omega), if_neg (by omega)]
      simp only
      rw [Nat.testBit_two_pow]
    · have IH : ∀ p ∈ wps l, ∀ n, (au k p n).2.1.testBit i = wl k p n i := fun p hp n => ih p (K.sub p hp).1 (K.sub p hp).2 n i
      unfold wl
      rw [if_neg h1]
      rcases K.aut n with ⟨h3, e⟩ | ⟨h3, least, e, hw⟩
      · rw [e]
        unfold ei
        rw [ei_la (au k) (cnt k) n i (wps l) K.len]
        simp only [List.length_nil, Nat.add_zero, Nat.zero_testBit, Bool.false_or]
        refine any_congr fun j hj => ?_
        rw [bs_len] at hj
        have e3 : wend l (bs (cnt k) n (wps l)).length j = true := by unfold wend; rw [decide_eq_true h3]; simp
        rw [e3, Bool.true_and]
        exact IH _ (bs_get _ _ _ _ hj).1 _
      · rw [e]
        show (chf (au k) n _ _ _ _).la.testBit i = _
        unfold chf
        rw [ch_la (au k) (cnt k) n i _ _ _ (wps l) K.len]
        simp only [cs0, List.length_nil, Nat.add_zero, Nat.zero_testBit, Bool.false_or, Nat.zero_add]
        refine any_congr fun j hj => ?_
        rw [bs_len] at hj
        rw [bs_len, hw j hj, IH _ (bs_get _ _ _ _ hj).1 _]
end Go.Proofs.YtpnllbojifnopaaGreatDoor
namespace Go.Proofs.YtpnllbojifnopaaGreatDoor
open Go Go.RowKit Pk Rl
set_option maxRecDepth 20000
theorem find_some {α : Type} {G : Nat → Option α} {N : Nat} {x : α} (h : (List.range N).findSome? G = some x) : ∃ j, j < N ∧ G j = some x := by
  obtain ⟨j, hj, e⟩ := List.exists_of_findSome?_eq_some h
  exact ⟨j, List.mem_range.1 hj, e⟩
theorem find_ne {α : Type} {G : Nat → Option α} {N : Nat} {j : Nat} (hj : j < N) (h : G j ≠ none) : (List.range N).findSome? G ≠ none := by
  intro e
  rw [List.findSome?_eq_none_iff] at e
  exact h (e j (List.mem_range.2 hj))
theorem jn_zero (y : Bool) (g : VQ) (b : Nat) : jn y g 0 b = [] := by
  rw [List.eq_nil_iff_forall_not_mem]
  intro e he
  have := (btz_mem.1 (jn_mem.1 he).1).2
  simp at this
theorem we_mem (k : Nat) : ∀ l : List Nd, fmd k l = true → frn l = l → ∀ n, n + cnt k l ≤ 32 → ∀ f t x, we k l n f t = some x → (f, t, x.y, vq x.g) ∈ (au k l n).2.2.2 := by
  induction k with
  | zero => intro l h; cases h
  | succ k ih =>
    intro l h hf n hn f t x hx
    rcases kw_of h with ⟨h1, _⟩ | ⟨h1, K⟩
    · unfold we at hx
      rw [if_pos h1] at hx
      cases hx
    · unfold we at hx
      rw [if_neg h1] at hx
      obtain ⟨j, hj, e⟩ := find_some hx
      have hN := K.cn
      rw [hN] at hn
      have hj' : j < (wps l).length := by rw [bs_len] at hj; exact hj
      obtain ⟨g1, g2, g3⟩ := bs_get (cnt k) (wps l) n j hj'
      rw [Option.or_eq_some_iff] at e
      rcases K.aut n with ⟨h3, e3⟩ | ⟨h3, least, e3, hw⟩
      · rw [e3]
        unfold ei
        rw [ei_E (au k) (cnt k) n _ (wps l) K.len]
        simp only [List.length_nil, Nat.add_zero]
        refine .inr ⟨j, hj, ?_⟩
        rcases e with e | ⟨_, e⟩
        · exact ih _ (K.sub _ g1).1 (K.sub _ g1).2 _ (by omega) f t x e
        · rw [if_neg (fun c => c.1 h3)] at e
          cases e
      · rw [e3]
        show _ ∈ (chf (au k) n _ _ _ _).E
        unfold chf
        rw [ch_E (au k) (cnt k) n _ _ _ _ (wps l) K.len]
        simp only [cs0, List.length_nil, Nat.add_zero]
        refine .inr ⟨j, hj, ?_⟩
        rcases e with e | ⟨_, e⟩
        · exact .inl (ih _ (K.sub _ g1).1 (K.sub _ g1).2 _ (by omega) f t x e)
        · split at e
          · rename_i c
            injection e with e
            subst e
            refine .inr (jn_mem.2 ⟨?_, ?_, rfl⟩)
            · rw [if_neg (by omega)]
              obtain ⟨q1, q2, q3⟩ := bs_get (cnt k) (wps l) n (j - 1) (by omega)
              have hl := wl_au k _ (K.sub _ q1).1 (K.sub _ q1).2 ((bs (cnt k) n (wps l)).getD (j - 1) d0).2 f
              rw [c.2.2.1] at hl
              have hr := (au_ok k _ (K.sub _ q1).1 (K.sub _ q1).2 ((bs (cnt k) n (wps l)).getD (j - 1) d0).2).lr f hl
              rw [K.len _ q1] at hr
              exact btz_mem.2 ⟨by simp only; omega, hl⟩
            · have hl := wf_au k _ (K.sub _ g1).1 (K.sub _ g1).2 ((bs (cnt k) n (wps l)).getD j d0).2 t
              rw [c.2.2.2] at hl
              have hr := (au_ok k _ (K.sub _ g1).1 (K.sub _ g1).2 ((bs (cnt k) n (wps l)).getD j d0).2).fr t hl
              rw [K.len _ g1] at hr
              exact btz_mem.2 ⟨by simp only; omega, hl⟩
          · cases e
theorem we_ne (k : Nat) : ∀ l : List Nd, fmd k l = true → frn l = l → ∀ n, ∀ e ∈ (au k l n).2.2.2, we k l n e.1 e.2.1 ≠ none := by
  induction k with
  | zero => intro l h; cases h
  | succ k ih =>
    intro l h hf n e he
    rcases kw_of h with ⟨h1, _⟩ | ⟨h1, K⟩
    · unfold au at he
      rw [if_neg (by omega), if_neg (by omega), if_neg (by omega)] at he
      simp at he
    · unfold we
      rw [if_neg h1]
      rcases K.aut n with ⟨h3, e3⟩ | ⟨h3, least, e3, hw⟩
      · rw [e3] at he
        unfold ei at he
        rw [ei_E (au k) (cnt k) n _ (wps l) K.len] at he
        simp only [List.length_nil, Nat.add_zero, List.not_mem_nil, false_or] at he
        obtain ⟨j, hj, he⟩ := he
        refine find_ne hj ?_
        have hj' : j < (wps l).length := by rw [bs_len] at hj; exact hj
        obtain ⟨g1, g2, g3⟩ := bs_get (cnt k) (wps l) n j hj'
        intro c
        rw [Option.or_eq_none_iff] at c
        exact ih _ (K.sub _ g1).1 (K.sub _ g1).2 _ e he c.1
      · rw [e3] at he
        have he2 : e ∈ (chf (au k) n (l.headD nz).y (vq (l.headD nz).g) least (wps l)).E := he
        unfold chf at he2
        rw [ch_E (au k) (cnt k) n _ _ _ _ (wps l) K.len] at he2
        simp only [cs0, List.length_nil, Nat.add_zero, List.not_mem_nil, false_or] at he2
        obtain ⟨j, hj, he2⟩ := he2
        refine find_ne hj ?_
        have hj' : j < (wps l).length := by rw [bs_len] at hj; exact hj
        obtain ⟨g1, g2, g3⟩ := bs_get (cnt k) (wps l) n j hj'
        intro c
        rw [Option.or_eq_none_iff] at c
        rcases he2 with he2 | he2
        · exact ih _ (K.sub _ g1).1 (K.sub _ g1).2 _ e he2 c.1
        · by_cases j0 : j = 0
          · rw [if_pos j0, jn_zero] at he2
            simp at he2
          · rw [if_neg j0] at he2
            obtain ⟨q1, q2, q3⟩ := bs_get (cnt k) (wps l) n (j - 1) (by omega)
            obtain ⟨a1, a2, _⟩ := jn_mem.1 he2
            have a1 := (btz_mem.1 a1).2
            have a2 := (btz_mem.1 a2).2
            rw [wl_au k _ (K.sub _ q1).1 (K.sub _ q1).2] at a1
            rw [wf_au k _ (K.sub _ g1).1 (K.sub _ g1).2] at a2
            have c2 := c.2
            rw [if_pos ⟨h3, by omega, a1, a2⟩] at c2
            cases c2
theorem pw_eq {E : List EV} (h : E.Pairwise Dk) {a b : EV} (ha : a ∈ E) (hb : b ∈ E) (e1 : a.1 = b.1) (e2 : a.2.1 = b.2.1) : a = b := by
  induction h with
  | nil => simp at ha
  | @cons c E hc _ ih =>
    rcases List.mem_cons.1 ha with h1 | h1
    · rcases List.mem_cons.1 hb with h2 | h2
      · exact h1.trans h2.symm
      · rw [h1] at e1 e2
        exact absurd ⟨e1, e2⟩ (hc b h2)
    · rcases List.mem_cons.1 hb with h2 | h2
      · rw [h2] at e1 e2
        exact absurd ⟨e1.symm, e2.symm⟩ (hc a h1)
      · exact ih h1 h2
abbrev gv (f t : Nat) (x : Nd) : EV := (f, t, x.y, vq x.g)
theorem we_au (k : Nat) (l : List Nd) (h : fmd k l = true) (hf : frn l = l) (n : Nat) (hn : n + cnt k l ≤ 32) (e : EV) : e ∈ (au k l n).2.2.2 ↔ (we k l n e.1 e.2.1).map (gv e.1 e.2.1) = some e := by
  constructor
  · intro he
    rcases hx : we k l n e.1 e.2.1 with _ | x
    · exact absurd hx (we_ne k l h hf n e he)
    · have := we_mem k l h hf n hn _ _ _ hx
      rw [Option.map_some]
      exact congrArg some (pw_eq (au_ok k l h hf n).nd this he rfl rfl)
  · intro he
    obtain ⟨x, hx, e2⟩ := Option.map_eq_some_iff.1 he
    have := we_mem k l h hf n hn _ _ _ hx
    rw [show (e.1, e.2.1, x.y, vq x.g) = e from e2] at this
    exact this
def wrow (k : Nat) (l : List Nd) (m : Nat) (f : Nat) : List EV := (List.range m).filterMap fun t => (we k l 0 f t).map (gv f t)
def wed (k : Nat) (l : List Nd) (m : Nat) : List EV := (List.range m).flatMap (wrow k l m)
def Lo (a b : EV) : Prop := a.1 < b.1 ∨ a.1 = b.1 ∧ a.2.1 < b.2.1
theorem wrow_mem {k : Nat} {l : List Nd} {m f : Nat} {e : EV} : e ∈ wrow k l m f ↔ e.1 = f ∧ e.2.1 < m ∧ (we k l 0 e.1 e.2.1).map (gv e.1 e.2.1) = some e := by
  unfold wrow
  rw [List.mem_filterMap]
  constructor
  · rintro ⟨t, ht, h⟩
    obtain ⟨x, hx, rfl⟩ := Option.map_eq_some_iff.1 h
    exact ⟨rfl, List.mem_range.1 ht, h⟩
  · rintro ⟨rfl, h2, h3⟩
    exact ⟨e.2.1, List.mem_range.2 h2, h3⟩
theorem wed_mem {k : Nat} {l : List Nd} {m : Nat} {e : EV} : e ∈ wed k l m ↔ e.1 < m ∧ e.2.1 < m ∧ (we k l 0 e.1 e.2.1).map (gv e.1 e.2.1) = some e := by
  unfold wed
  rw [List.mem_flatMap]
  constructor
  · rintro ⟨f, hf, h⟩
    obtain ⟨rfl, h2, h3⟩ := wrow_mem.1 h
    exact ⟨List.mem_range.1 hf, h2, h3⟩
  · rintro ⟨h1, h2, h3⟩
    exact ⟨e.1, List.mem_range.2 h1, wrow_mem.2 ⟨rfl, h2, h3⟩⟩
theorem wed_lo (k : Nat) (l : List Nd) (m : Nat) : (wed k l m).Pairwise Lo := by
  unfold wed
  rw [List.pairwise_flatMap]
  refine ⟨fun f _ => ?_, ?_⟩
  · unfold wrow
    rw [List.pairwise_filterMap]
    refine List.pairwise_lt_range.imp fun {a b} hab x hx y hy => ?_
    obtain ⟨_, _, rfl⟩ := Option.map_eq_some_iff.1 hx
    obtain ⟨_, _, rfl⟩ := Option.map_eq_some_iff.1 hy
    exact .inr ⟨rfl, hab⟩
  · refine List.pairwise_lt_range.imp fun {a b} hab x hx y hy => ?_
    have h1 := (wrow_mem.1 hx).1
    have h2 := (wrow_mem.1 hy).1
    exact .inl (by omega)
theorem lo_nodup {E : List EV} (h : E.Pairwise Lo) : E.Nodup := h.imp fun {a b} hl e => by
  subst e
  rcases hl with h | h
  · omega
  · omega
theorem lo_eq {A B : List EV} (ha : A.Pairwise Lo) (hb : B.Pairwise Lo) (h : ∀ e, e ∈ A ↔ e ∈ B) : A = B := by
  refine List.Perm.eq_of_pairwise (le := Lo) (fun a b _ _ h1 h2 => ?_) ha hb ((List.perm_ext_iff_of_nodup (lo_nodup ha) (lo_nodup hb)).2 h)
  rcases h1 with h1 | h1 <;> rcases h2 with h2 | h2 <;> omega
theorem wed_au (k : Nat) (l : List Nd) (h : fmd k l = true) (hf : frn l = l) (hn : cnt k l ≤ 32) (E : List EV) (hp : E.Perm (au k l 0).2.2.2) (hs : E.Pairwise Lo) : E = wed k l (cnt k l) := by
  refine lo_eq hs (wed_lo ..) fun e => ?_
  rw [hp.mem_iff, wed_mem, we_au k l h hf 0 (by omega)]
  refine ⟨fun h1 => ⟨?_, ?_, h1⟩, fun h1 => h1.2.2⟩
  all_goals
    have := (au_ok k l h hf 0).er e ((we_au k l h hf 0 (by omega) e).2 h1)
    rw [(au_cn k l h hf).p 0] at this
    omega
def sbt (b : Nat → Bool) : Nat → Nat
  | 0 => 0
  | n + 1 => sbt b n + if b n = true then 2 ^ n else 0
theorem sbt_lt (b : Nat → Bool) (n : Nat) : sbt b n < 2 ^ n := by
  induction n with
  | zero => exact Nat.one_pos
  | succ n ih =>
    show sbt b n + (if b n = true then 2 ^ n else 0) < _
    rw [Nat.pow_succ]
    split <;> omega
end Go.Proofs.YtpnllbojifnopaaGreatDoor
