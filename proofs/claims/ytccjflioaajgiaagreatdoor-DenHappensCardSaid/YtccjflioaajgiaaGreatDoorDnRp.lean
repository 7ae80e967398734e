/- A repetition, and one of just so many times: by values. -/
import Derived.Test.YtccjflioaajgiaaGreatDoorDnLs
namespace Go.Proofs.YtccjflioaajgiaaGreatDoor
open Go Go.RowKit Go.Maps Pk Rl
set_option maxRecDepth 20000

theorem spl_flat {l : List Nd} {ps : List (List Nd)} (h : spl l = some ps) : ps.flatten = l := by
  generalize hk : l.length = k
  induction k using Nat.strongRecOn generalizing l ps with
  | _ k ih =>
    by_cases hl : l = []
    · subst hl; rw [spl_nil] at h; injection h with h; subst h; rfl
    · rw [spl_cons l hl] at h
      by_cases hf : frn l = []
      · rw [if_pos hf] at h; cases h
      · rw [if_neg hf] at h
        obtain ⟨qs, hq, rfl⟩ := Option.map_eq_some_iff.1 h
        have h0 : (frn l).length ≠ 0 := fun e => hf (List.eq_nil_of_length_eq_zero e)
        have hlt : (l.drop (frn l).length).length < k := by
          rw [List.length_drop]
          have : l.length ≠ 0 := fun e => hl (List.eq_nil_of_length_eq_zero e)
          omega
        rw [List.flatten_cons, ih _ hlt hq rfl]
        conv => lhs; arg 1; rw [frn_take l hf]
        exact List.take_append_drop _ _
theorem w64_id {x : Int} (h0 : 0 ≤ x) (h1 : x ≤ 4611686018427387904) : wrap64 x = x := by
  unfold wrap64; omega
def slen (qs : List (List Nd)) : Nat := (qs.map List.length).sum
theorem slen_flat (qs : List (List Nd)) : slen qs = qs.flatten.length := by unfold slen; rw [List.length_flatten]
theorem fold_bound (F : List Nd → Int) (c : Nat) : ∀ (qs : List (List Nd)) (m : Int), (∀ p ∈ qs, 0 ≤ F p ∧ F p ≤ ((p.length * c : Nat) : Int)) → 0 ≤ m → m + ((slen qs * c : Nat) : Int) ≤ 4611686018427387904 →
    0 ≤ qs.foldl (fun m p => wrap64 (m + F p)) m ∧ qs.foldl (fun m p => wrap64 (m + F p)) m ≤ m + ((slen qs * c : Nat) : Int) := by
  intro qs
  induction qs with
  | nil => intro m _ h0 _; simp [slen]; exact h0
  | cons p qs ih =>
    intro m h h0 h1
    have hs : slen (p :: qs) * c = p.length * c + slen qs * c := by unfold slen; rw [List.map_cons, List.sum_cons, Nat.add_mul]
    rw [hs, Int.natCast_add] at h1 ⊢
    have hp := h p (by simp)
    rw [List.foldl_cons, w64_id (by omega) (by omega)]
    have := ih (m + F p) (fun q hq => h q (by simp [hq])) (by omega) (by omega)
    omega
theorem fold_max (F : List Nd → Int) : ∀ (qs : List (List Nd)) (m : Int), m ≤ qs.foldl (fun m p => max m (1 + F p)) m ∧ ∀ p ∈ qs, 1 + F p ≤ qs.foldl (fun m p => max m (1 + F p)) m := by
  intro qs
  induction qs with
  | nil => intro m; exact ⟨Int.le_refl _, by simp⟩
  | cons q qs ih =>
    intro m
    rw [List.foldl_cons]
    have := ih (max m (1 + F q))
    refine ⟨by omega, fun p hp => ?_⟩
    rcases List.mem_cons.1 hp with rfl | hp
    · omega
    · exact this.2 p hp
theorem ofp_some {F : List Nd → Bool} {l : List Nd} (h : ofp F l = true) : ∃ n r ps, frn l = n :: r ∧ spl r = some ps ∧ pts l = ps ∧ ps.all F = true := by
  unfold ofp at h
  rcases hf : frn l with _ | ⟨n, r⟩
  · rw [hf] at h; cases h
  · rw [hf] at h
    simp only at h
    rcases hs : spl r with _ | ps
    · rw [hs] at h; cases h
    · rw [hs] at h
      refine ⟨n, r, ps, rfl, hs, ?_, h⟩
      unfold pts
      rw [hf, List.tail_cons, hs]; rfl
theorem pow8 (d : Nat) (hd : d ≤ 8) : 1 ≤ 8 ^ d ∧ 8 ^ d ≤ 16777216 := by
  refine ⟨Nat.pow_pos (by omega), ?_⟩
  have := Nat.pow_le_pow_right (show 0 < 8 by omega) hd
  simpa using this
theorem plc_bound (k : Nat) (l : List Nd) (hf : fmd k l = true) (d : Nat) (hd : dpt k l ≤ (d : Int)) (h8 : d ≤ 8) (hl : l.length ≤ 32) : 0 ≤ plc k l ∧ plc k l ≤ ((l.length * 8 ^ d : Nat) : Int) := by
  induction k generalizing l d with
  | zero => cases hf
  | succ k ih =>
    unfold fmd at hf
    rw [Bool.and_eq_true] at hf
    obtain ⟨n, r, ps, h1, h2, h3, h4⟩ := ofp_some hf.1
    have hlen : r.length + 1 ≤ l.length := by have := frn_len l; rw [h1, List.length_cons] at this; exact this
    have hps : slen ps = r.length := by rw [slen_flat, spl_flat h2]
    have hdm : dpt (k + 1) l = ps.foldl (fun m p => max m (1 + dpt k p)) 0 := by rw [← h3]; rfl
    have he : plc (k + 1) l = if (l.headD nz).k = 1 then 1 else if (l.headD nz).k = 4 then wrap64 (ps.foldl (fun m p => wrap64 (m + plc k p)) 0 * (l.headD nz).hi) else ps.foldl (fun m p => wrap64 (m + plc k p)) 0 := by rw [← h3]; rfl
    have hkd := hf.2
    generalize l.headD nz = x at hkd he
    have p8 := pow8 d h8
    have hbig : 1 ≤ l.length * 8 ^ d := Nat.mul_pos (by omega) (by omega)
    rw [he]
    by_cases c1 : x.k = 1
    · rw [if_pos c1]; omega
    rw [if_neg c1]
    have key : 0 ≤ ps.foldl (fun m p => wrap64 (m + plc k p)) 0 ∧ ps.foldl (fun m p => wrap64 (m + plc k p)) 0 * 8 ≤ ((l.length * 8 ^ d : Nat) : Int) := by
      rcases hpe : ps with _ | ⟨q, qs⟩
      · simp only [List.foldl_nil]; omega
      · rw [← hpe]
        have hq := (fold_max (dpt k) ps 0).2
        have d1 : 1 ≤ d := by
          have := hq q (by rw [hpe]; simp)
          have := (dpt_pos k q).1
          omega
        obtain ⟨e, rfl⟩ : ∃ e, d = e + 1 := ⟨d - 1, by omega⟩
        have p8' := pow8 e (by omega)
        have hb : slen ps * 8 ^ e ≤ 32 * 16777216 := Nat.mul_le_mul (by omega) p8'.2
        have := fold_bound (plc k) (8 ^ e) ps 0 (fun p hp => by
          have hm := (spl_mem h2 p hp).2.2.1
          have := hq p hp
          exact ih p (List.all_eq_true.1 h4 p hp) e (by omega) (by omega) (by omega)) (by omega) (by omega)
        have h9 : slen ps * 8 ^ e * 8 ≤ l.length * 8 ^ (e + 1) := by
          rw [Nat.pow_succ, ← Nat.mul_assoc]
          exact Nat.mul_le_mul_right 8 (Nat.mul_le_mul_right _ (by omega))
        omega
    by_cases c4 : x.k = 4
    · rw [if_pos c4]
      unfold kd at hkd
      rw [if_neg c1, if_neg (by omega), if_neg (by omega), if_pos c4] at hkd
      simp only [Bool.and_eq_true, decide_eq_true_iff] at hkd
      have hh8 := hkd.2
      have hh1 : 1 ≤ x.hi := by have := hkd.1.1.2; have := hkd.1.2; omega
      generalize ps.foldl (fun m p => wrap64 (m + plc k p)) 0 = m at key
      have hb : l.length * 8 ^ d ≤ 32 * 16777216 := Nat.mul_le_mul hl p8.2
      have m1 : m * x.hi ≤ m * 8 := Int.mul_le_mul_of_nonneg_left hh8 key.1
      have m0 : 0 ≤ m * x.hi := Int.mul_nonneg key.1 (by omega)
      rw [w64_id m0 (by omega)]
      omega
    · rw [if_neg c4]; omega
abbrev rpx (lo hi : Int) (s : Int) : Nd := ⟨4, qz, false, qz, lo, hi, s⟩
theorem plc_rpx (k : Nat) (lo hi s : Int) (M : List Nd) : plc (k + 1) (rpx lo hi s :: M) = wrap64 ((pts (rpx lo hi s :: M)).foldl (fun m p => wrap64 (m + plc k p)) 0 * hi) := by
  have e : plc (k + 1) (rpx lo hi s :: M) = if (4 : Int) = 1 then 1 else if (4 : Int) = 4 then wrap64 ((pts (rpx lo hi s :: M)).foldl (fun m p => wrap64 (m + plc k p)) 0 * hi) else (pts (rpx lo hi s :: M)).foldl (fun m p => wrap64 (m + plc k p)) 0 := rfl
  rw [e, if_neg (by omega), if_pos rfl]
theorem kd_rep {lo hi s : Int} {m : Nat} : kd (rpx lo hi s) m = true ↔ m = 1 ∧ 1 ≤ lo ∧ lo ≤ hi ∧ hi ≤ 8 := by
  unfold kd
  rw [if_neg (by show ¬ (4 : Int) = 1; omega), if_neg (by show ¬ (4 : Int) = 2; omega), if_neg (by show ¬ (4 : Int) = 3; omega), if_pos (by rfl)]
  simp only [Bool.and_eq_true, decide_eq_true_iff]
  constructor
  · rintro ⟨⟨⟨⟨⟨a, _⟩, _⟩, b⟩, c⟩, d⟩; exact ⟨a, b, c, d⟩
  · rintro ⟨a, b, c, d⟩; exact ⟨⟨⟨⟨⟨a, rfl⟩, rfl⟩, b⟩, c⟩, d⟩
theorem rep_mp {M : List Nd} {s W lo hi n : Int} (h : mp (rpx lo hi s :: M) W = 0) (h1 : 1 ≤ n) (h3 : n ≤ hi) : mp (rpx n n s :: M) W = 0 ∧ (pts (rpx lo hi s :: M)).length = 1 := by
  unfold mp at h ⊢
  have hs : (rpx n n s).s = (rpx lo hi s).s := rfl
  by_cases c1 : 32 < (rpx lo hi s :: M).length
  · rw [if_pos c1] at h; omega
  rw [if_neg c1] at h
  rw [if_neg (by simpa using c1)]
  by_cases c2 : (frn (rpx lo hi s :: M)).length < (rpx lo hi s :: M).length ∨ fmd 33 (rpx lo hi s :: M) = false
  · rw [if_pos c2] at h; omega
  rw [if_neg c2] at h
  rw [not_or, Bool.not_eq_false] at c2
  have e := c2.2
  unfold fmd at e
  rw [Bool.and_eq_true] at e
  have e2 : kd (rpx lo hi s) (pts (rpx lo hi s :: M)).length = true := e.2
  obtain ⟨k1, k2, k3, k4⟩ := kd_rep.1 e2
  refine ⟨?_, k1⟩
  have d2 : ¬ ((frn (rpx n n s :: M)).length < (rpx n n s :: M).length ∨ fmd 33 (rpx n n s :: M) = false) := by
    rw [not_or, Bool.not_eq_false]
    refine ⟨by rw [(frn_tail _ _ M hs).2]; simpa using c2.1, ?_⟩
    unfold fmd
    rw [Bool.and_eq_true]
    refine ⟨by rw [ofp_head _ _ _ M hs]; exact e.1, ?_⟩
    show kd (rpx n n s) (pts (rpx n n s :: M)).length = true
    rw [pts_head _ _ M hs]
    exact kd_rep.2 ⟨k1, h1, Int.le_refl _, by omega⟩
  rw [if_neg d2]
  by_cases c3 : (rpx lo hi s :: M).any bad = true
  · rw [if_pos c3] at h; omega
  rw [if_neg c3] at h
  have d3 : ¬ (rpx n n s :: M).any bad = true := c3
  rw [if_neg d3]
  have dp : dpt 33 (rpx n n s :: M) = dpt 33 (rpx lo hi s :: M) := by unfold dpt; rw [pts_head _ _ M hs]
  rw [dp]
  by_cases c4 : 8 < dpt 33 (rpx lo hi s :: M)
  · rw [if_pos c4] at h; omega
  rw [if_neg c4] at h ⊢
  by_cases c5 : W < 1 ∨ 1048576 < W
  · rw [if_pos c5] at h; omega
  rw [if_neg c5] at h ⊢
  by_cases c6 : 32 < plc 33 (rpx lo hi s :: M)
  · rw [if_pos c6] at h; omega
  have hl : M.length + 1 ≤ 32 := by simpa using c1
  have dn : dpt 33 (rpx lo hi s :: M) ≤ ((8 : Nat) : Int) := by omega
  have pp : plc 33 (rpx n n s :: M) ≤ plc 33 (rpx lo hi s :: M) := by
    rw [plc_rpx 32, plc_rpx 32, pts_head (rpx lo hi s) (rpx n n s) M hs]
    obtain ⟨n0, r, ps, f1, f2, f3, f4⟩ := ofp_some e.1
    have hlen : r.length + 1 ≤ M.length + 1 := by have := frn_len (rpx lo hi s :: M); rw [f1, List.length_cons, List.length_cons] at this; exact this
    have hps : slen ps = r.length := by rw [slen_flat, spl_flat f2]
    have hdm : dpt 33 (rpx lo hi s :: M) = ps.foldl (fun m p => max m (1 + dpt 32 p)) 0 := by rw [← f3]; rfl
    have hq := (fold_max (dpt 32) ps 0).2
    have hb : slen ps * 8 ^ 8 ≤ 32 * 16777216 := Nat.mul_le_mul (by omega) (pow8 8 (by omega)).2
    have kb := fold_bound (plc 32) (8 ^ 8) ps 0 (fun p hp => by
      have hm := (spl_mem f2 p hp).2.2.1
      have := hq p hp
      exact plc_bound 32 p (List.all_eq_true.1 f4 p hp) 8 (by omega) (by omega) (by omega)) (by omega) (by omega)
    rw [f3]
    generalize ps.foldl (fun m p => wrap64 (m + plc 32 p)) 0 = m at kb
    have m1 : m * n ≤ m * hi := Int.mul_le_mul_of_nonneg_left h3 kb.1
    have m2 : m * hi ≤ m * 8 := Int.mul_le_mul_of_nonneg_left k4 kb.1
    have m0 : 0 ≤ m * n := Int.mul_nonneg kb.1 (by omega)
    rw [w64_id m0 (by omega), w64_id (by omega) (by omega)]
    exact m1
  rw [if_neg (by omega)]
theorem rel_rep (h : Hq) (N : Nat) (lo hi : Nat) (s : Int) (M : List Nd) (r : List Nd) (hp : pts (rpx lo hi s :: M) = [r]) {i j : Nat} :
    rel h N 60 (rpx (lo : Int) (hi : Int) s :: M) i j = true ↔ ∃ m, m < hi ∧ lo ≤ m + 1 ∧ chn N (gp fun _ => false) (List.replicate (m + 1) (rel h N 59 r)) i j = true := by
  have e : rel h N 60 (rpx (lo : Int) (hi : Int) s :: M) = anyc N (gd h (rpx lo hi s)) (reps hi ((pts (rpx lo hi s :: M)).map (rel h N 59))) lo := by
    rw [rel_succ, if_neg (by show ¬ (4 : Int) = 2; omega), if_neg (by show ¬ (4 : Int) = 3; omega), if_pos (by rfl)]
    rfl
  have eg : gd h (rpx lo hi s) = fun _ => false := by funext k; unfold gd; rfl
  have er : reps hi [rel h N 59 r] = List.replicate hi (rel h N 59 r) := by
    unfold reps
    induction hi with
    | zero => rfl
    | succ n ih => rw [List.replicate_succ, List.flatten_cons, List.replicate_succ]; simp [List.flatten_replicate_singleton]
  rw [e, hp, eg, List.map_cons, List.map_nil, er]
  unfold anyc
  rw [List.any_eq_true, List.length_replicate]
  constructor
  · rintro ⟨m, hm, h1⟩
    rw [Bool.and_eq_true, decide_eq_true_iff, List.take_replicate, Nat.min_eq_left (by have := List.mem_range.1 hm; omega)] at h1
    exact ⟨m, List.mem_range.1 hm, h1.1, h1.2⟩
  · rintro ⟨m, hm, h1, h2⟩
    refine ⟨m, List.mem_range.2 hm, ?_⟩
    rw [Bool.and_eq_true, decide_eq_true_iff, List.take_replicate, Nat.min_eq_left (by omega)]
    exact ⟨h1, h2⟩
/- just where one of so many times does -/
theorem rep_in {M : List Nd} {W lo hi n : Nat} {s : Int} {R : List Lg} (h : dme (rpx lo hi s :: M) W R = 0) (h1 : 1 ≤ lo) (h2 : lo ≤ n) (h3 : n ≤ hi) : dme (rpx n n s :: M) W R = 0 ∧ ∀ m ∈ dmt (rpx n n s :: M) W R, m ∈ dmt (rpx lo hi s :: M) W R := by
  obtain ⟨hm, hd⟩ := dme_iff.1 h
  obtain ⟨e1, e2⟩ := rep_mp (n := (n : Int)) hm (by omega) (by omega)
  have e3 := dme_iff.2 ⟨e1, hd⟩
  obtain ⟨r, hr⟩ := List.length_eq_one_iff.1 e2
  have hr' : pts (rpx (n : Int) n s :: M) = [r] := (pts_head (rpx lo hi s) (rpx n n s) M rfl).trans hr
  refine ⟨e3, fun m hmm => ?_⟩
  rw [dmt_iff e3] at hmm
  rw [dmt_iff h]
  refine ⟨hmm.1, hmm.2.1, hmm.2.2.1, ?_⟩
  obtain ⟨q, q1, q2, q3⟩ := (rel_rep _ _ n n s M r hr').1 hmm.2.2.2
  exact (rel_rep _ _ lo hi s M r hr).2 ⟨q, by omega, by omega, q3⟩
theorem rep_of {M : List Nd} {W lo hi : Nat} {s : Int} {R : List Lg} (h : dme (rpx lo hi s :: M) W R = 0) (h1 : 1 ≤ lo) {m : Mt} (hm : m ∈ dmt (rpx lo hi s :: M) W R) : ∃ n, lo ≤ n ∧ n ≤ hi ∧ m ∈ dmt (rpx n n s :: M) W R := by
  have hm' := (dmt_iff h).1 hm
  obtain ⟨hp, hd⟩ := dme_iff.1 h
  obtain ⟨r, hr⟩ := List.length_eq_one_iff.1 (rep_mp (n := (hi : Int)) hp (by
    rcases Nat.eq_zero_or_pos hi with e | e
    · subst e
      unfold mp at hp
      by_cases c1 : 32 < (rpx lo (0 : Nat) s :: M).length
      · rw [if_pos c1] at hp; omega
      rw [if_neg c1] at hp
      by_cases c2 : (frn (rpx lo (0 : Nat) s :: M)).length < (rpx lo (0 : Nat) s :: M).length ∨ fmd 33 (rpx lo (0 : Nat) s :: M) = false
      · rw [if_pos c2] at hp; omega
      rw [not_or, Bool.not_eq_false] at c2
      have e := c2.2
      unfold fmd at e
      rw [Bool.and_eq_true] at e
      have e2 : kd (rpx lo (0 : Nat) s) (pts (rpx lo (0 : Nat) s :: M)).length = true := e.2
      obtain ⟨k1, k2, k3, k4⟩ := kd_rep.1 e2
      omega
    · omega) (Int.le_refl _)).2
  obtain ⟨q, q1, q2, q3⟩ := (rel_rep _ _ lo hi s M r hr).1 hm'.2.2.2
  refine ⟨q + 1, q2, by omega, ?_⟩
  have e3 := (rep_in (n := q + 1) h h1 q2 (by omega)).1
  have hr' : pts (rpx ((q + 1 : Nat) : Int) ((q + 1 : Nat) : Int) s :: M) = [r] := (pts_head (rpx lo hi s) (rpx ((q + 1 : Nat) : Int) ((q + 1 : Nat) : Int) s) M rfl).trans hr
  rw [dmt_iff e3]
  exact ⟨hm'.1, hm'.2.1, hm'.2.2.1, (rel_rep _ _ (q + 1) (q + 1) s M r hr').2 ⟨q, by omega, by omega, q3⟩⟩
end Go.Proofs.YtccjflioaajgiaaGreatDoor
