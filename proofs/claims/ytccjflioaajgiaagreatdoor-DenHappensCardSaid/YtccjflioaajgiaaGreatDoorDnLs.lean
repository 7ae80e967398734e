/- What a guard, or a shorter window, takes away: by values. -/
import Derived.Test.YtccjflioaajgiaaGreatDoorMU
import Derived.Test.YtccjflioaajgiaaGreatDoorDnW
namespace Go.Proofs.YtccjflioaajgiaaGreatDoor
open Go Go.RowKit Go.Maps Pk Rl
set_option maxRecDepth 20000

/- a node ahead of others: its parts tell nothing of it but its size -/
theorem frn_tail (x x' : Nd) (M : List Nd) (h : x'.s = x.s) : (frn (x' :: M)).tail = (frn (x :: M)).tail ∧ (frn (x' :: M)).length = (frn (x :: M)).length := by
  rw [frn_cons, frn_cons, h]
  by_cases c : x.s < 0 ∨ (M.length : Int) < x.s
  · rw [if_pos c, if_pos c]; exact ⟨rfl, rfl⟩
  · rw [if_neg c, if_neg c]; exact ⟨rfl, rfl⟩
theorem pts_head (x x' : Nd) (M : List Nd) (h : x'.s = x.s) : pts (x' :: M) = pts (x :: M) := by
  unfold pts
  rw [(frn_tail x x' M h).1]
theorem ofp_head (F : List Nd → Bool) (x x' : Nd) (M : List Nd) (h : x'.s = x.s) : ofp F (x' :: M) = ofp F (x :: M) := by
  unfold ofp
  rw [frn_cons, frn_cons, h]
  by_cases c : x.s < 0 ∨ (M.length : Int) < x.s
  · rw [if_pos c, if_pos c]
  · rw [if_neg c, if_neg c]
theorem plc_seq (k : Nat) (x : Nd) (M : List Nd) (hk : x.k = 2) : plc (k + 1) (x :: M) = (pts (x :: M)).foldl (fun m p => wrap64 (m + plc k p)) 0 := by
  have e : plc (k + 1) (x :: M) = if x.k = 1 then 1 else if x.k = 4 then wrap64 ((pts (x :: M)).foldl (fun m p => wrap64 (m + plc k p)) 0 * x.hi) else (pts (x :: M)).foldl (fun m p => wrap64 (m + plc k p)) 0 := rfl
  rw [e, if_neg (by omega), if_neg (by omega)]
theorem mp_head {x x' : Nd} {M : List Nd} {W W' : Int} (hk : x.k = 2) (hk' : x'.k = 2) (hs : x'.s = x.s) (hp : x'.p = x.p) (hl : x'.lo = x.lo) (hh : x'.hi = x.hi) (hg : x'.y = true ∨ qno x'.g = true) (hb : pmay x'.g.x x'.g.t x'.g.L = true) (h1 : 1 ≤ W') (h2 : W' ≤ W)
    (h : mp (x :: M) W = 0) : mp (x' :: M) W' = 0 := by
  unfold mp at h ⊢
  by_cases c1 : 32 < (x :: M).length
  · rw [if_pos c1] at h; omega
  rw [if_neg c1] at h
  rw [if_neg (by simpa using c1)]
  by_cases c2 : (frn (x :: M)).length < (x :: M).length ∨ fmd 33 (x :: M) = false
  · rw [if_pos c2] at h; omega
  rw [if_neg c2] at h
  have d2 : ¬ ((frn (x' :: M)).length < (x' :: M).length ∨ fmd 33 (x' :: M) = false) := by
    rw [not_or] at c2 ⊢
    refine ⟨by rw [(frn_tail x x' M hs).2]; simpa using c2.1, ?_⟩
    have e := c2.2
    rw [Bool.not_eq_false] at e ⊢
    unfold fmd at e ⊢
    rw [Bool.and_eq_true] at e ⊢
    refine ⟨by rw [ofp_head _ x x' M hs]; exact e.1, ?_⟩
    have e2 := e.2
    rw [pts_head x x' M hs]
    simp only [List.headD_cons] at e2 ⊢
    unfold kd at e2 ⊢
    rw [if_neg (by omega), if_pos hk] at e2
    rw [if_neg (by omega), if_pos hk', hp, hl, hh]
    simp only [Bool.and_eq_true] at e2 ⊢
    exact ⟨⟨⟨e2.1.1.1, by rcases hg with g | g <;> simp [g]⟩, e2.1.2⟩, e2.2⟩
  rw [if_neg d2]
  by_cases c3 : (x :: M).any bad = true
  · rw [if_pos c3] at h; omega
  rw [if_neg c3] at h
  have d3 : ¬ (x' :: M).any bad = true := by
    rw [List.any_cons, Bool.or_eq_true, not_or] at c3 ⊢
    refine ⟨?_, c3.2⟩
    have e := c3.1
    unfold bad at e ⊢
    rw [hp, hb]
    simp only [Bool.or_eq_true, not_or] at e ⊢
    exact ⟨e.1, by simp⟩
  rw [if_neg d3]
  have dp : dpt 33 (x' :: M) = dpt 33 (x :: M) := by unfold dpt; rw [pts_head x x' M hs]
  have pl : plc 33 (x' :: M) = plc 33 (x :: M) := by
    rw [plc_seq 32 x M hk, plc_seq 32 x' M hk', pts_head x x' M hs]
  rw [dp, pl]
  by_cases c4 : 8 < dpt 33 (x :: M)
  · rw [if_pos c4] at h; omega
  rw [if_neg c4] at h ⊢
  by_cases c5 : W < 1 ∨ 1048576 < W
  · rw [if_pos c5] at h; omega
  rw [if_neg c5] at h
  rw [if_neg (by omega)]
  exact h
theorem dme_iff {L : List Nd} {W : Nat} {R : List Lg} : dme L W R = 0 ↔ mp L W = 0 ∧ dm 0 R = true := by
  unfold dme
  by_cases c : mp L W = 0
  · rw [if_pos c]
    by_cases d : dm 0 R = true
    · rw [if_pos d]; exact ⟨fun _ => ⟨c, d⟩, fun _ => rfl⟩
    · rw [if_neg d]; exact ⟨fun h => by omega, fun h => absurd h.2 d⟩
  · rw [if_neg c]; exact ⟨fun h => absurd h c, fun h => absurd h.1 c⟩
/- a match, by what it means -/
theorem dmt_iff {L : List Nd} {W : Nat} {R : List Lg} (h : dme L W R = 0) {m : Mt} : m ∈ dmt L W R ↔ m.1 < R.length ∧ m.2 < R.length ∧ lat R m.2 - lat R m.1 ≤ W ∧ rel (hq R) R.length 60 L m.1 m.2 = true := by
  obtain ⟨i, j⟩ := m
  have hr := (dm_all (dme_iff.1 h).2).2
  unfold dmt
  rw [if_pos h]
  have e : (i, j) ∈ srt (gen L W R R.length) ↔ (i, j) ∈ gen L W R R.length := (List.mergeSort_perm _ _).mem_iff
  rw [e]
  unfold gen
  rw [List.mem_flatMap]
  constructor
  · rintro ⟨a, ha, hm⟩
    obtain ⟨b, hb, e⟩ := List.mem_map.1 hm
    injection e with e1 e2
    subst e1 e2
    unfold pm ens at hb
    obtain ⟨h1, h2⟩ := mem_rng.1 hb
    have hij := (rn_fwd (hq R) R.length L 0 a b h2)
    have h3 := (lt_ovr hr hij.1).1 h1
    exact ⟨List.mem_range.1 ha, h3.1, h3.2, h2⟩
  · rintro ⟨h1, h2, h3, h4⟩
    refine ⟨i, List.mem_range.2 h1, List.mem_map.2 ⟨j, ?_, rfl⟩⟩
    have hij := (rn_fwd (hq R) R.length L 0 i j h4)
    unfold pm ens
    exact mem_rng.2 ⟨(lt_ovr hr hij.1).2 ⟨h2, h3⟩, h4⟩
/- narrower guards -/
theorem chn_le {N : Nat} {g g' : Rl2} (h : ∀ i j, g i j = true → g' i j = true) (rs : List Rl2) : ∀ i j, chn N g rs i j = true → chn N g' rs i j = true := by
  have key : ∀ (rs : List Rl2) (a a' : Rl2), (∀ i j, a i j = true → a' i j = true) → ∀ i j, rs.foldl (fun a b => thn N (thn N a g) b) a i j = true → rs.foldl (fun a b => thn N (thn N a g') b) a' i j = true := by
    intro rs
    induction rs with
    | nil => intro a a' ha; exact ha
    | cons r rs ih =>
      intro a a' ha
      rw [List.foldl_cons, List.foldl_cons]
      refine ih _ _ fun i j hc => ?_
      obtain ⟨k, hk, h1, h2⟩ := thn_iff.1 hc
      obtain ⟨m, hm, h3, h4⟩ := thn_iff.1 h1
      exact thn_iff.2 ⟨k, hk, thn_iff.2 ⟨m, hm, ha _ _ h3, h _ _ h4⟩, h2⟩
  cases rs with
  | nil => intro i j hc; exact hc
  | cons r rs => exact key rs r r fun _ _ h => h
theorem rel_seq (h : Hq) (N : Nat) (x : Nd) (M : List Nd) (hk : x.k = 2) : rel h N 60 (x :: M) = chn N (gp (gd h x)) ((pts (x :: M)).map (rel h N 59)) := by
  rw [rel_succ, if_pos (by exact hk)]; rfl
theorem rel_guard {h : Hq} {N : Nat} {x x' : Nd} {M : List Nd} (hk : x.k = 2) (hk' : x'.k = 2) (hs : x'.s = x.s) (hy : x.y = false) {i j : Nat} (hr : rel h N 60 (x' :: M) i j = true) : rel h N 60 (x :: M) i j = true := by
  rw [rel_seq h N x' M hk', pts_head x x' M hs] at hr
  rw [rel_seq h N x M hk]
  refine chn_le (fun i j hg => ?_) _ i j hr
  rw [gp_iff] at hg ⊢
  exact ⟨hg.1, fun k _ _ => by unfold gd; rw [hy]; rfl⟩
theorem rel_loose {h : Hq} {N : Nat} {x x' : Nd} {M : List Nd} (hk : x.k = 2) (hk' : x'.k = 2) (hs : x'.s = x.s) (hy : x.y = false) (hn : ∀ i, i < N → h x'.g i = false) (i j : Nat) (hj : j < N) : rel h N 60 (x' :: M) i j = rel h N 60 (x :: M) i j := by
  rw [rel_seq h N x' M hk', rel_seq h N x M hk, pts_head x x' M hs]
  refine ag_chn (Nat.le_refl N) (fun i hi => ?_) (pts (x :: M)) (rel h N 59) (rel h N 59) (fun p _ => Ag.refl _ _) (fun p _ => rel_fwd h N 59 p) i j hj
  unfold gd
  rw [hn i hi, hy]; simp
theorem dmt_loose {x x' : Nd} {M : List Nd} {W : Nat} {R : List Lg} (hk : x.k = 2) (hk' : x'.k = 2) (hs : x'.s = x.s) (hy : x.y = false) (hn : ∀ i, i < R.length → hq R x'.g i = false) (h : dme (x :: M) W R = 0) (h' : dme (x' :: M) W R = 0) : dmt (x' :: M) W R = dmt (x :: M) W R := by
  unfold dmt
  rw [if_pos h, if_pos h']
  congr 1
  unfold gen
  congr 1
  funext i
  congr 1
  unfold pm ens
  refine rng_congr fun j hj => ?_
  have hr := ovr_le R.length (lat R) W i
  exact rel_loose hk hk' hs hy hn i j (by omega)
end Go.Proofs.YtccjflioaajgiaaGreatDoor
