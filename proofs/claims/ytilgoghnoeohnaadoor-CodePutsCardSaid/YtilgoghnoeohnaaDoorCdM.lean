/- The writing of a pattern, by lists: node by node, and tree by tree. -/
import Derived.Test.YtilgoghnoeohnaaDoorMW
import Derived.Test.YtilgoghnoeohnaaDoorPdPut
namespace Go.Proofs.YtilgoghnoeohnaaDoor
open Go Go.RowKit Pk Rl
set_option maxRecDepth 20000

/- a node's writing, of so many parts -/
def nbs (n : Nd) (m : Nat) : List Int := (if n.y then n.k + 16 else n.k) :: ((if n.k = 1 then wpd n.p.x n.p.t n.p.L else if n.k = 4 then [n.lo, n.hi] else [(m : Int)]) ++ (if n.y then wpd n.g.x n.g.t n.g.L else []))
def wT : Nat → List Nd → List Int
  | 0, _ => []
  | k + 1, l => nbs (l.headD nz) (pts l).length ++ (pts l).flatMap (wT k)
/- the first so many nodes, as they stand -/
def wL (L : List Nd) (n : Nat) : List Int := (List.range n).flatMap fun i => nbs (L.getD i nz) (pts (L.drop i)).length
theorem wL_zero (L : List Nd) : wL L 0 = [] := rfl
theorem wL_succ (L : List Nd) (n : Nat) : wL L (n + 1) = wL L n ++ nbs (L.getD n nz) (pts (L.drop n)).length := by
  unfold wL
  rw [List.range_succ, List.flatMap_append]; simp
theorem frn_app {l r : List Nd} (h : frn l ≠ []) : frn (l ++ r) = frn l := by
  rcases l with _ | ⟨x, M⟩
  · exact absurd rfl h
  · rw [frn_cons] at h ⊢
    by_cases c : x.s < 0 ∨ (M.length : Int) < x.s
    · rw [if_pos c] at h; exact absurd rfl h
    · rw [List.cons_append, frn_cons, if_neg c, if_neg (by rw [List.length_append]; omega)]
      rw [List.take_append_of_le_length (by omega)]
theorem pts_app {l r : List Nd} (h : frn l ≠ []) : pts (l ++ r) = pts l := by unfold pts; rw [frn_app h]
/- each node's pattern lies within -/
def AF (p : List Nd) : Prop := ∀ i, i < p.length → frn (p.drop i) ≠ []
theorem AF.flat {ps : List (List Nd)} (h : ∀ p ∈ ps, AF p) : AF ps.flatten := by
  induction ps with
  | nil => intro i hi; simp at hi
  | cons p ps ih =>
    intro i hi
    rw [List.flatten_cons] at hi ⊢
    rw [List.length_append] at hi
    by_cases c : i < p.length
    · rw [List.drop_append_of_le_length (by omega), frn_app (h p (by simp) i c)]
      exact h p (by simp) i c
    · rw [List.drop_append, List.drop_of_length_le (by omega), List.nil_append]
      exact ih (fun q hq => h q (by simp [hq])) _ (by omega)
theorem wL_app (p r : List Nd) (h : AF p) (n : Nat) : wL (p ++ r) (p.length + n) = wL p p.length ++ wL r n := by
  induction n with
  | zero =>
    rw [Nat.add_zero, wL_zero, List.append_nil]
    unfold wL
    rw [List.flatMap_eq_foldl, List.flatMap_eq_foldl]
    have key : ∀ m, m ≤ p.length → wL (p ++ r) m = wL p m := by
      intro m
      induction m with
      | zero => intro _; rfl
      | succ m ih =>
        intro hm
        rw [wL_succ, wL_succ, ih (by omega), List.drop_append_of_le_length (by omega), pts_app (h m (by omega))]
        congr 2
        rw [List.getD_eq_getElem?_getD, List.getD_eq_getElem?_getD, List.getElem?_append_left (by omega)]
    have := key p.length (Nat.le_refl _)
    unfold wL at this
    rw [List.flatMap_eq_foldl, List.flatMap_eq_foldl] at this
    exact this
  | succ n ih =>
    rw [← Nat.add_assoc, wL_succ, wL_succ, ih, List.append_assoc]
    congr 2
    rw [show (p ++ r).getD (p.length + n) nz = r.getD n nz by rw [List.getD_eq_getElem?_getD, List.getD_eq_getElem?_getD, List.getElem?_append_right (by omega), Nat.add_sub_cancel_left]]
    rw [List.drop_append, List.drop_of_length_le (by omega), List.nil_append, Nat.add_sub_cancel_left]
theorem wL_flat {ps : List (List Nd)} (h : ∀ p ∈ ps, AF p) : wL ps.flatten ps.flatten.length = ps.flatMap fun p => wL p p.length := by
  induction ps with
  | nil => rfl
  | cons p ps ih =>
    rw [List.flatten_cons, List.length_append, wL_app p _ (h p (by simp)), ih (fun q hq => h q (by simp [hq]))]
    rfl
theorem wL_cons (x : Nd) (M : List Nd) (n : Nat) : wL (x :: M) (n + 1) = nbs x (pts (x :: M)).length ++ wL M n := by
  induction n with
  | zero => rw [wL_succ, wL_zero, wL_zero, List.append_nil, List.nil_append]; rfl
  | succ n ih =>
    rw [wL_succ, ih, wL_succ, List.append_assoc]
    rfl
theorem ofp_spl {F : List Nd → Bool} {l : List Nd} (h : ofp F l = true) : ∃ x r ps, frn l = x :: r ∧ spl r = some ps ∧ pts l = ps ∧ ps.all F = true := by
  by_cases hf : frn l = []
  · rw [ofp_nil hf] at h; cases h
  · rw [ofp_cons hf] at h
    rcases hl : frn l with _ | ⟨x, r⟩
    · exact absurd hl hf
    · rw [hl, List.tail_cons] at h
      rcases hs : spl r with _ | ps
      · rw [hs] at h; cases h
      · rw [hs] at h
        exact ⟨x, r, ps, rfl, hs, by unfold pts; rw [hl, List.tail_cons, hs]; rfl, h⟩
theorem spl_flat {l : List Nd} {ps : List (List Nd)} (h : spl l = some ps) : ps.flatten = l := by
  generalize hk : l.length = k
  induction k using Nat.strongRecOn generalizing l ps with
  | _ k ih =>
    by_cases hl : l = []
    · subst hl; rw [spl_nil] at h; injection h with h; subst h; rfl
    · rw [spl_cons l hl] at h
      by_cases hf : frn l = []
      · rw [if_pos hf] at h; cases h
      · rw [if_neg hf] at h
        obtain ⟨qs, hq, rfl⟩ := Option.map_eq_some_iff.1 h
        have h0 : (frn l).length ≠ 0 := fun e => hf (List.eq_nil_of_length_eq_zero e)
        have hlt : (l.drop (frn l).length).length < k := by
          rw [List.length_drop]
          have : l.length ≠ 0 := fun e => hl (List.eq_nil_of_length_eq_zero e)
          omega
        rw [List.flatten_cons, ih _ hlt hq rfl]
        conv => lhs; arg 1; rw [frn_take l hf]
        exact List.take_append_drop _ _
/- a built tree's nodes all have their patterns, and its writing is theirs -/
theorem bld_wr (k : Nat) : ∀ (l : List Nd), bld k l = true → frn l = l → AF l ∧ wT k l = wL l l.length := by
  induction k with
  | zero => intro l h _; cases h
  | succ k ih =>
    intro l h hf
    obtain ⟨x, r, ps, h1, h2, h3, h4⟩ := ofp_spl (show ofp (bld k) l = true from h)
    rw [hf] at h1
    subst h1
    have hfl := spl_flat h2
    have hps : ∀ p ∈ ps, AF p ∧ wT k p = wL p p.length := fun p hp => ih p (List.all_eq_true.1 h4 p hp) (spl_mem h2 p hp).2.1
    refine ⟨fun i hi => ?_, ?_⟩
    · rcases i with _ | i
      · rw [List.drop_zero, hf]; simp
      · rw [List.drop_succ_cons]
        rw [← hfl]
        exact AF.flat (fun p hp => (hps p hp).1) i (by rw [hfl]; simpa using hi)
    · show nbs x (pts (x :: r)).length ++ (pts (x :: r)).flatMap (wT k) = _
      rw [List.length_cons, wL_cons, h3]
      congr 1
      have e : ps.flatMap (wT k) = ps.flatMap fun p => wL p p.length := by
        have : ∀ qs : List (List Nd), (∀ p ∈ qs, wT k p = wL p p.length) → qs.flatMap (wT k) = qs.flatMap fun p => wL p p.length := by
          intro qs
          induction qs with
          | nil => intro _; rfl
          | cons q qs ihq => intro hq; rw [List.flatMap_cons, List.flatMap_cons, hq q (by simp), ihq (fun p hp => hq p (by simp [hp]))]
        exact this ps fun p hp => (hps p hp).2
      rw [e, ← wL_flat (fun p hp => (hps p hp).1), hfl]
end Go.Proofs.YtilgoghnoeohnaaDoor
