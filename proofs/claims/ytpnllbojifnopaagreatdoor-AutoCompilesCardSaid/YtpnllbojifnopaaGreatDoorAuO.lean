/- How many places, how many edges. -/
import Derived.Test.YtpnllbojifnopaaGreatDoorAuN
namespace Go.Proofs.YtpnllbojifnopaaGreatDoor
open Go Go.RowKit Pk Rl
set_option maxRecDepth 20000

theorem spl_flat {l : List Nd} {ps : List (List Nd)} (h : spl l = some ps) : ps.flatten = l := by
  generalize hk : l.length = k
  induction k using Nat.strongRecOn generalizing l ps with
  | _ k ih =>
    by_cases hl : l = []
    · subst hl; rw [spl_nil] at h; injection h with h; subst h; rfl
    · rw [spl_cons l hl] at h
      by_cases hf : frn l = []
      · rw [if_pos hf] at h; cases h
      · rw [if_neg hf] at h
        obtain ⟨qs, hq, rfl⟩ := Option.map_eq_some_iff.1 h
        have h0 : (frn l).length ≠ 0 := fun e => hf (List.eq_nil_of_length_eq_zero e)
        have hlt : (l.drop (frn l).length).length < k := by
          rw [List.length_drop]
          have : l.length ≠ 0 := fun e => hl (List.eq_nil_of_length_eq_zero e)
          omega
        rw [List.flatten_cons, ih _ hlt hq rfl]
        conv => lhs; arg 1; rw [frn_take l hf]
        exact List.take_append_drop _ _
theorem fold_max (g : List Nd → Int) (ps : List (List Nd)) : ∀ m : Int, m ≤ ps.foldl (fun m p => max m (1 + g p)) m ∧ ∀ p ∈ ps, 1 + g p ≤ ps.foldl (fun m p => max m (1 + g p)) m := by
  induction ps with
  | nil => intro m; exact ⟨Int.le_refl _, by simp⟩
  | cons q ps ih =>
    intro m
    obtain ⟨h1, h2⟩ := ih (max m (1 + g q))
    rw [List.foldl_cons]
    refine ⟨by omega, fun p hp => ?_⟩
    rcases List.mem_cons.1 hp with rfl | hp
    · omega
    · exact h2 p hp
theorem sum_rep (c : List Nd → Nat) (p : List Nd) (h : Nat) : ((List.replicate h p).map c).sum = h * c p := by
  induction h with
  | zero => simp
  | succ h ih => rw [List.replicate_succ, List.map_cons, List.sum_cons, ih, Nat.add_mul, Nat.one_mul, Nat.add_comm]
theorem sum_le (c : List Nd → Nat) (M : Nat) (ps : List (List Nd)) (h : ∀ p ∈ ps, c p ≤ p.length * M) : (ps.map c).sum ≤ ps.flatten.length * M := by
  induction ps with
  | nil => simp
  | cons p ps ih =>
    rw [List.map_cons, List.sum_cons, List.flatten_cons, List.length_append, Nat.add_mul]
    have := h p (List.mem_cons_self ..)
    have := ih (fun q hq => h q (List.mem_cons_of_mem _ hq))
    omega
theorem sum_pos (c : List Nd → Nat) (ps : List (List Nd)) (hne : ps ≠ []) (h : ∀ p ∈ ps, 1 ≤ c p) : 1 ≤ (ps.map c).sum := by
  rcases ps with _ | ⟨p, ps⟩
  · exact absurd rfl hne
  · rw [List.map_cons, List.sum_cons]
    have := h p (List.mem_cons_self ..)
    omega
theorem ei_cnt (f : List Nd → Nat → Res) (c : List Nd → Nat) (M : Nat) (n : Nat) (ps : List (List Nd)) (h : ∀ p ∈ ps, ∀ n, (f p n).2.2.1.length = c p ∧ (f p n).2.2.2.length + 1024 ≤ M * c p) :
    ∀ s : Res, (ps.foldl (eis f n) s).2.2.1.length = s.2.2.1.length + (ps.map c).sum ∧ (ps.foldl (eis f n) s).2.2.2.length ≤ s.2.2.2.length + M * (ps.map c).sum := by
  induction ps with
  | nil => intro s; simp
  | cons p ps ih =>
    intro s
    obtain ⟨h1, h2⟩ := ih (fun q hq => h q (List.mem_cons_of_mem _ hq)) (eis f n s p)
    obtain ⟨h3, h4⟩ := h p (List.mem_cons_self ..) (n + s.2.2.1.length)
    rw [List.foldl_cons, List.map_cons, List.sum_cons, Nat.mul_add]
    have e1 : (eis f n s p).2.2.1.length = s.2.2.1.length + (f p (n + s.2.2.1.length)).2.2.1.length := by unfold eis; simp
    have e2 : (eis f n s p).2.2.2.length = s.2.2.2.length + (f p (n + s.2.2.1.length)).2.2.2.length := by unfold eis; simp
    omega
theorem ch_cnt (f : List Nd → Nat → Res) (c : List Nd → Nat) (M : Nat) (n : Nat) (y : Bool) (g : VQ) (least : Nat) (ps : List (List Nd)) (h : ∀ p ∈ ps, ∀ n, (f p n).2.2.1.length = c p ∧ (f p n).2.2.2.length + 1024 ≤ M * c p) :
    ∀ s : Cs, (ps.foldl (cst f n y g least) s).P.length = s.P.length + (ps.map c).sum ∧ (ps.foldl (cst f n y g least) s).E.length ≤ s.E.length + M * (ps.map c).sum := by
  induction ps with
  | nil => intro s; simp
  | cons p ps ih =>
    intro s
    obtain ⟨h1, h2⟩ := ih (fun q hq => h q (List.mem_cons_of_mem _ hq)) (cst f n y g least s p)
    obtain ⟨h3, h4⟩ := h p (List.mem_cons_self ..) (n + s.P.length)
    rw [List.foldl_cons, List.map_cons, List.sum_cons, Nat.mul_add]
    have e1 : (cst f n y g least s p).P.length = s.P.length + (f p (n + s.P.length)).2.2.1.length := by unfold cst; simp
    have e2 : (cst f n y g least s p).E.length = s.E.length + (f p (n + s.P.length)).2.2.2.length + (jn y g s.al (f p (n + s.P.length)).1).length := by unfold cst; simp [Nat.add_assoc]
    have := jn_len y g s.al (f p (n + s.P.length)).1
    omega
theorem wrap_add (a b : Int) : wrap64 (wrap64 a + wrap64 b) = wrap64 (a + b) := by unfold wrap64; omega
theorem wrap_id (n : Int) (h0 : 0 ≤ n) (h1 : n < 9223372036854775808) : wrap64 n = n := by unfold wrap64; omega
theorem wrap_off (x z : Int) : wrap64 (x - 18446744073709551616 * z) = wrap64 x := by
  unfold wrap64
  rw [show x - 18446744073709551616 * z + 9223372036854775808 = x + 9223372036854775808 + 18446744073709551616 * (-z) by omega, Int.add_mul_emod_self_left]
theorem wrap_mul (a b : Int) : wrap64 (wrap64 a * b) = wrap64 (a * b) := by
  obtain ⟨q, hq⟩ : ∃ q : Int, wrap64 a = a - 18446744073709551616 * q := ⟨(a + 9223372036854775808) / 18446744073709551616, by unfold wrap64; omega⟩
  rw [hq, Int.sub_mul, Int.mul_assoc, wrap_off]
theorem plc_fold (k : Nat) (ps : List (List Nd)) (h : ∀ p ∈ ps, plc k p = wrap64 (cnt k p : Int)) : ∀ a : Nat, ps.foldl (fun m p => wrap64 (m + plc k p)) (wrap64 (a : Int)) = wrap64 ((a + (ps.map (cnt k)).sum : Nat) : Int) := by
  induction ps with
  | nil => intro a; rw [List.foldl_nil, List.map_nil, List.sum_nil, Nat.add_zero]
  | cons p ps ih =>
    intro a
    have e : (a : Int) + (cnt k p : Int) = ((a + cnt k p : Nat) : Int) := (Int.natCast_add a (cnt k p)).symm
    have e2 : wrap64 (wrap64 (a : Int) + plc k p) = wrap64 ((a + cnt k p : Nat) : Int) := by rw [h p (List.mem_cons_self ..), wrap_add, e]
    rw [List.foldl_cons, e2, ih (fun q hq => h q (List.mem_cons_of_mem _ hq)), List.map_cons, List.sum_cons, Nat.add_assoc]
/- all of it -/
structure Cn (k : Nat) (l : List Nd) : Prop where
  p : ∀ n, (au k l n).2.2.1.length = cnt k l
  e : ∀ n, (au k l n).2.2.2.length ≤ 1024 * k * cnt k l
  pos : 1 ≤ cnt k l
  w : plc k l = wrap64 (cnt k l : Int)
  d : cnt k l ≤ l.length * 8 ^ (dpt k l).toNat
theorem au_cn (k : Nat) : ∀ (l : List Nd), fmd k l = true → frn l = l → Cn k l := by
  induction k with
  | zero => intro l h; cases h
  | succ k ih =>
    intro l h hf
    unfold fmd at h
    rw [Bool.and_eq_true] at h
    obtain ⟨x, q, ps, h1, h2, h3, h4⟩ := ofp_spl h.1
    rw [hf] at h1
    have hfl := spl_flat h2
    have hll : (pts l).flatten.length + 1 = l.length := by rw [h3, hfl, h1]; rfl
    have hk := kd_k h.2
    have hm := h.2
    have IH : ∀ p ∈ pts l, Cn k p := fun p hp => ih p (List.all_eq_true.1 h4 p (by rw [← h3]; exact hp)) (pts_mem p hp).2.1
    have hbase : ∀ p ∈ pts l, ∀ n, (au k p n).2.2.1.length = cnt k p ∧ (au k p n).2.2.2.length + 1024 ≤ (1024 * (k + 1)) * cnt k p := fun p hp n => ⟨(IH p hp).p n, by
      have h5 := (IH p hp).e n
      have h6 := (IH p hp).pos
      have e : 1024 * (k + 1) * cnt k p = 1024 * k * cnt k p + 1024 * cnt k p := by rw [Nat.mul_add, Nat.add_mul, Nat.mul_one]
      omega⟩
    have hD : ∀ p ∈ pts l, cnt k p ≤ p.length * 8 ^ ((dpt (k + 1) l).toNat - 1) := fun p hp => by
      refine Nat.le_trans (IH p hp).d (Nat.mul_le_mul_left _ (Nat.pow_le_pow_right (by omega) ?_))
      have h5 := (fold_max (dpt k) (pts l) 0).2 p hp
      have h6 := (dpt_pos k p).1
      have h7 : dpt (k + 1) l = (pts l).foldl (fun m p => max m (1 + dpt k p)) 0 := rfl
      omega
    have hS := sum_le (cnt k) _ (pts l) hD
    have hS2 : ((pts l).map (cnt k)).sum ≤ l.length * 8 ^ ((dpt (k + 1) l).toNat - 1) := Nat.le_trans hS (Nat.mul_le_mul_right _ (by omega))
    have hPos := fun hne => sum_pos (cnt k) (pts l) hne (fun p hp => (IH p hp).pos)
    have hW := plc_fold k (pts l) (fun p hp => (IH p hp).w) 0
    rw [Nat.zero_add, wrap_id ((0 : Nat) : Int) (by omega) (by omega), show ((0 : Nat) : Int) = 0 from rfl] at hW
    have hDp : ∀ p ∈ pts l, 1 ≤ (dpt (k + 1) l).toNat := fun p hp => by
      have h5 := (fold_max (dpt k) (pts l) 0).2 p hp
      have h6 := (dpt_pos k p).1
      have h7 : dpt (k + 1) l = (pts l).foldl (fun m p => max m (1 + dpt k p)) 0 := rfl
      omega
    have hup : l.length * 8 ^ ((dpt (k + 1) l).toNat - 1) ≤ l.length * 8 ^ (dpt (k + 1) l).toNat := Nat.mul_le_mul_left _ (Nat.pow_le_pow_right (by omega) (by omega))
    rcases hk with hk | hk | hk | hk
    · have hc : cnt (k + 1) l = 1 := by unfold cnt; rw [if_pos hk]
      have ha : ∀ n, au (k + 1) l n = (2 ^ n, 2 ^ n, [vq (l.headD nz).p], []) := fun n => by unfold au; rw [if_neg (by omega), if_neg (by omega), if_neg (by omega)]
      refine ⟨fun n => by rw [ha, hc]; rfl, fun n => by rw [ha]; exact Nat.zero_le _, by rw [hc]; exact Nat.le_refl _, ?_, ?_⟩
      · unfold plc
        rw [if_pos hk, hc, wrap_id ((1 : Nat) : Int) (by omega) (by omega)]
        rfl
      · rw [hc]
        have : 0 < l.length * 8 ^ (dpt (k + 1) l).toNat := Nat.mul_pos (by omega) (Nat.pow_pos (by omega))
        exact this
    · have hc : cnt (k + 1) l = ((pts l).map (cnt k)).sum := by unfold cnt; rw [if_neg (by omega), if_neg (by omega)]
      have h5 := kd_m2 hm (.inl hk)
      have hne : pts l ≠ [] := fun e => by rw [e] at h5; simp at h5
      have ha : ∀ n, au (k + 1) l n = ch (au k) n (l.headD nz).y (vq (l.headD nz).g) (pts l).length (pts l) := fun n => by rw [au, if_pos hk]
      have hcc := fun n => ch_cnt (au k) (cnt k) _ n (l.headD nz).y (vq (l.headD nz).g) (pts l).length (pts l) hbase cs0
      refine ⟨fun n => ?_, fun n => ?_, by rw [hc]; exact hPos hne, ?_, by rw [hc]; exact Nat.le_trans hS2 hup⟩
      · rw [ha, hc]; have := (hcc n).1; unfold ch chf; simpa [cs0] using this
      · rw [ha, hc]; have := (hcc n).2; unfold ch chf; simpa [cs0] using this
      · rw [plc, if_neg (by omega), hc]
        simp only [if_neg (show ¬ (l.headD nz).k = 4 by omega)]
        exact hW
    · have hc : cnt (k + 1) l = ((pts l).map (cnt k)).sum := by unfold cnt; rw [if_neg (by omega), if_neg (by omega)]
      have h5 := kd_m2 hm (.inr hk)
      have hne : pts l ≠ [] := fun e => by rw [e] at h5; simp at h5
      have ha : ∀ n, au (k + 1) l n = ei (au k) n (pts l) := fun n => by rw [au, if_neg (by omega), if_pos hk]
      have hcc := fun n => ei_cnt (au k) (cnt k) _ n (pts l) hbase (0, 0, [], [])
      refine ⟨fun n => ?_, fun n => ?_, by rw [hc]; exact hPos hne, ?_, by rw [hc]; exact Nat.le_trans hS2 hup⟩
      · rw [ha, hc]; have := (hcc n).1; unfold ei; simpa using this
      · rw [ha, hc]; have := (hcc n).2; unfold ei; simpa using this
      · rw [plc, if_neg (by omega), hc]
        simp only [if_neg (show ¬ (l.headD nz).k = 4 by omega)]
        exact hW
    · obtain ⟨m1, m2, m3, m4⟩ := kd_rep hm hk
      obtain ⟨p0, hp0⟩ : ∃ p, pts l = [p] := List.length_eq_one_iff.1 m1
      obtain ⟨hh, hhe⟩ := Int.eq_ofNat_of_zero_le (show 0 ≤ (l.headD nz).hi by omega)
      have hhe2 : (l.headD nz).hi.toNat = hh := by rw [hhe]; rfl
      have hh8 : 1 ≤ hh ∧ hh ≤ 8 := by omega
      have hc : cnt (k + 1) l = cnt k p0 * hh := by rw [cnt, if_neg (by omega), if_pos hk, hhe2, hp0]; simp
      have hp : p0 ∈ pts l := by rw [hp0]; simp
      have ha : ∀ n, au (k + 1) l n = ch (au k) n (l.headD nz).y (vq (l.headD nz).g) (l.headD nz).lo.toNat (List.replicate hh p0) := fun n => by rw [au, if_neg (by omega), if_neg (by omega), if_pos hk, hhe2, hp0]; rfl
      have hcc := fun n => ch_cnt (au k) (cnt k) _ n (l.headD nz).y (vq (l.headD nz).g) (l.headD nz).lo.toNat (List.replicate hh p0) (fun p h n => by rw [(List.mem_replicate.1 h).2]; exact hbase p0 hp n) cs0
      have hpos := (IH p0 hp).pos
      refine ⟨fun n => ?_, fun n => ?_, ?_, ?_, ?_⟩
      · rw [ha, hc, Nat.mul_comm]; have := (hcc n).1; rw [sum_rep] at this; unfold ch chf; simpa [cs0] using this
      · rw [ha, hc, Nat.mul_comm (cnt k p0)]; have := (hcc n).2; rw [sum_rep] at this; unfold ch chf; simpa [cs0] using this
      · rw [hc]; exact Nat.mul_pos hpos hh8.1
      · rw [plc, if_neg (by omega)]
        simp only [if_pos hk]
        rw [hW, hp0, hc, hhe, Int.natCast_mul]
        simp only [List.map_cons, List.map_nil, List.sum_cons, List.sum_nil, Nat.add_zero]
        exact wrap_mul _ _
      · rw [hc]
        have h5 := hS2
        rw [hp0] at h5
        simp only [List.map_cons, List.map_nil, List.sum_cons, List.sum_nil, Nat.add_zero] at h5
        have h6 := hDp p0 hp
        have e8 : 8 ^ (dpt (k + 1) l).toNat = 8 ^ ((dpt (k + 1) l).toNat - 1) * 8 := by rw [← Nat.pow_succ]; congr 1; omega
        rw [e8, ← Nat.mul_assoc]
        exact Nat.mul_le_mul h5 hh8.2
end Go.Proofs.YtpnllbojifnopaaGreatDoor
