/- What May tells depends on what a node tells alone. -/
import Derived.Test.YtilgoghnoeohnaaDoorCdX
import Derived.Test.YtilgoghnoeohnaaDoorCdM
namespace Go.Proofs.YtilgoghnoeohnaaDoor
open Go Go.RowKit Pk Rl
set_option maxRecDepth 20000

/- all of a node that May looks at -/
def sk (n : Nd) : (Nat → Bool) × Bool × Int × Int × Int := (fun m => kd n m, bad n, n.s, n.k, n.hi)
abbrev Skm (X Y : List Nd) : Prop := X.map sk = Y.map sk
theorem Skm.len {X Y : List Nd} (h : Skm X Y) : X.length = Y.length := by have := congrArg List.length h; simpa using this
theorem Skm.frn {X Y : List Nd} (h : Skm X Y) : Skm (frn X) (frn Y) := by
  rcases X with _ | ⟨x, X⟩ <;> rcases Y with _ | ⟨y, Y⟩
  · rfl
  · cases h
  · cases h
  · have hl : X.length = Y.length := by have := h.len; simpa using this
    simp only [Skm, List.map_cons, List.cons.injEq] at h
    have hs : x.s = y.s := by have := congrArg (fun t => t.2.2.1) h.1; exact this
    rw [frn_cons, frn_cons, hs, hl]
    by_cases c : y.s < 0 ∨ (Y.length : Int) < y.s
    · rw [if_pos c, if_pos c]
    · rw [if_neg c, if_neg c]
      show List.map sk _ = List.map sk _
      rw [List.map_cons, List.map_cons, h.1, List.map_take, List.map_take, h.2]
theorem Skm.nil {X Y : List Nd} (h : Skm X Y) : X = [] ↔ Y = [] := by
  have := h.len
  constructor
  · intro e; subst e; exact List.eq_nil_of_length_eq_zero (by simpa using this.symm)
  · intro e; subst e; exact List.eq_nil_of_length_eq_zero (by simpa using this)
theorem Skm.drop {X Y : List Nd} (h : Skm X Y) (k : Nat) : Skm (X.drop k) (Y.drop k) := by
  show List.map sk _ = List.map sk _
  rw [List.map_drop, List.map_drop, h]
theorem Skm.tail {X Y : List Nd} (h : Skm X Y) : Skm X.tail Y.tail := by
  show List.map sk _ = List.map sk _
  rw [List.map_tail, List.map_tail, h]
theorem Skm.spl {X Y : List Nd} (h : Skm X Y) : (spl X).map (List.map (List.map sk)) = (spl Y).map (List.map (List.map sk)) := by
  generalize hk : X.length = k
  induction k using Nat.strongRecOn generalizing X Y with
  | _ k ih =>
    by_cases hX : X = []
    · have hY := h.nil.1 hX
      subst hX; subst hY; rfl
    · have hY : Y ≠ [] := fun e => hX (h.nil.2 e)
      rw [spl_cons X hX, spl_cons Y hY]
      have hf := h.frn
      by_cases c : Go.Proofs.YtilgoghnoeohnaaDoor.frn X = []
      · rw [if_pos c, if_pos (hf.nil.1 c)]
      · rw [if_neg c, if_neg (fun e => c (hf.nil.2 e))]
        have h0 : (Go.Proofs.YtilgoghnoeohnaaDoor.frn X).length ≠ 0 := fun e => c (List.eq_nil_of_length_eq_zero e)
        have h1 : X.length ≠ 0 := fun e => hX (List.eq_nil_of_length_eq_zero e)
        have hd := h.drop (Go.Proofs.YtilgoghnoeohnaaDoor.frn X).length
        have e := ih (X.drop (Go.Proofs.YtilgoghnoeohnaaDoor.frn X).length).length (by rw [List.length_drop]; omega) hd rfl
        rw [hf.len] at e ⊢
        rw [Option.map_map, Option.map_map]
        have key : ∀ (a b : List Nd) (o1 o2 : Option (List (List Nd))), Skm a b → o1.map (List.map (List.map sk)) = o2.map (List.map (List.map sk)) → o1.map (List.map (List.map sk) ∘ (a :: ·)) = o2.map (List.map (List.map sk) ∘ (b :: ·)) := by
          intro a b o1 o2 hab ho
          rcases o1 with _ | p <;> rcases o2 with _ | q
          · rfl
          · cases ho
          · cases ho
          · simp only [Option.map_some, Option.some.injEq] at ho
            simp only [Option.map_some, Function.comp, List.map_cons, ho, hab]
        exact key _ _ _ _ hf e
theorem Skm.pts {X Y : List Nd} (h : Skm X Y) : (pts X).map (List.map sk) = (pts Y).map (List.map sk) := by
  have := h.frn.tail.spl
  unfold Go.Proofs.YtilgoghnoeohnaaDoor.pts
  rcases h1 : Go.Proofs.YtilgoghnoeohnaaDoor.spl (Go.Proofs.YtilgoghnoeohnaaDoor.frn X).tail with _ | p <;> rcases h2 : Go.Proofs.YtilgoghnoeohnaaDoor.spl (Go.Proofs.YtilgoghnoeohnaaDoor.frn Y).tail with _ | q <;> rw [h1, h2] at this
  · cases this
  · cases this
  · simpa using this
theorem all_sm {F : List Nd → Bool} (hF : ∀ X Y, Skm X Y → F X = F Y) : ∀ (ps qs : List (List Nd)), ps.map (List.map sk) = qs.map (List.map sk) → ps.all F = qs.all F := by
  intro ps
  induction ps with
  | nil => intro qs h; rcases qs with _ | ⟨q, qs⟩; · rfl
           · cases h
  | cons p ps ih =>
    intro qs h
    rcases qs with _ | ⟨q, qs⟩
    · cases h
    · rw [List.map_cons, List.map_cons] at h
      injection h with h1 h2
      rw [List.all_cons, List.all_cons, hF p q h1, ih qs h2]
theorem Skm.ofp {F : List Nd → Bool} (hF : ∀ X Y, Skm X Y → F X = F Y) {X Y : List Nd} (h : Skm X Y) : ofp F X = ofp F Y := by
  have hf := h.frn
  by_cases c : Go.Proofs.YtilgoghnoeohnaaDoor.frn X = []
  · rw [ofp_nil c, ofp_nil (hf.nil.1 c)]
  · rw [ofp_cons c, ofp_cons (fun e => c (hf.nil.2 e))]
    have := hf.tail.spl
    rcases h1 : Go.Proofs.YtilgoghnoeohnaaDoor.spl (Go.Proofs.YtilgoghnoeohnaaDoor.frn X).tail with _ | p <;> rcases h2 : Go.Proofs.YtilgoghnoeohnaaDoor.spl (Go.Proofs.YtilgoghnoeohnaaDoor.frn Y).tail with _ | q <;> rw [h1, h2] at this
    · cases this
    · cases this
    · simp only [Option.map_some, Option.some.injEq] at this
      exact all_sm hF p q this
theorem Skm.hd {X Y : List Nd} (h : Skm X Y) : sk (X.headD nz) = sk (Y.headD nz) := by
  rcases X with _ | ⟨x, X⟩ <;> rcases Y with _ | ⟨y, Y⟩
  · rfl
  · cases h
  · cases h
  · rw [Skm, List.map_cons, List.map_cons] at h; injection h
theorem plen {ps qs : List (List Nd)} (h : ps.map (List.map sk) = qs.map (List.map sk)) : ps.length = qs.length := by have := congrArg List.length h; simpa using this
theorem Skm.fmd (k : Nat) : ∀ {X Y : List Nd}, Skm X Y → fmd k X = fmd k Y := by
  induction k with
  | zero => intro X Y _; rfl
  | succ k ih =>
    intro X Y h
    show (Go.Proofs.YtilgoghnoeohnaaDoor.ofp (Go.Proofs.YtilgoghnoeohnaaDoor.fmd k) X && kd (X.headD nz) (Go.Proofs.YtilgoghnoeohnaaDoor.pts X).length) = (Go.Proofs.YtilgoghnoeohnaaDoor.ofp (Go.Proofs.YtilgoghnoeohnaaDoor.fmd k) Y && kd (Y.headD nz) (Go.Proofs.YtilgoghnoeohnaaDoor.pts Y).length)
    rw [h.ofp (fun X Y h => ih h), plen h.pts]
    have := congrFun (congrArg (fun t => t.1) h.hd) (Go.Proofs.YtilgoghnoeohnaaDoor.pts Y).length
    simp only [sk] at this
    rw [this]
theorem fold_sm {f : Int → List Nd → Int} (hF : ∀ m X Y, Skm X Y → f m X = f m Y) : ∀ (ps qs : List (List Nd)) (m : Int), ps.map (List.map sk) = qs.map (List.map sk) → ps.foldl f m = qs.foldl f m := by
  intro ps
  induction ps with
  | nil => intro qs m h; rcases qs with _ | ⟨q, qs⟩; · rfl
           · cases h
  | cons p ps ih =>
    intro qs m h
    rcases qs with _ | ⟨q, qs⟩
    · cases h
    · rw [List.map_cons, List.map_cons] at h
      injection h with h1 h2
      rw [List.foldl_cons, List.foldl_cons, hF m p q h1, ih qs _ h2]
theorem Skm.dpt (k : Nat) : ∀ {X Y : List Nd}, Skm X Y → dpt k X = dpt k Y := by
  induction k with
  | zero => intro X Y _; rfl
  | succ k ih => intro X Y h; exact fold_sm (fun m X Y h => by rw [ih h]) _ _ 0 h.pts
theorem Skm.plc (k : Nat) : ∀ {X Y : List Nd}, Skm X Y → plc k X = plc k Y := by
  induction k with
  | zero => intro X Y _; rfl
  | succ k ih =>
    intro X Y h
    have e1 : (X.headD nz).k = (Y.headD nz).k := congrArg (fun t => t.2.2.2.1) h.hd
    have e2 : (X.headD nz).hi = (Y.headD nz).hi := congrArg (fun t => t.2.2.2.2) h.hd
    have e3 : (Go.Proofs.YtilgoghnoeohnaaDoor.pts X).foldl (fun m p => wrap64 (m + Go.Proofs.YtilgoghnoeohnaaDoor.plc k p)) 0 = (Go.Proofs.YtilgoghnoeohnaaDoor.pts Y).foldl (fun m p => wrap64 (m + Go.Proofs.YtilgoghnoeohnaaDoor.plc k p)) 0 := fold_sm (fun m X Y h => by rw [ih h]) _ _ 0 h.pts
    unfold Go.Proofs.YtilgoghnoeohnaaDoor.plc
    simp only [e1, e2, e3]
theorem any_sm {X Y : List Nd} (h : Skm X Y) : X.any bad = Y.any bad := by
  induction X generalizing Y with
  | nil => rcases Y with _ | ⟨y, Y⟩; · rfl
           · cases h
  | cons x X ih =>
    rcases Y with _ | ⟨y, Y⟩
    · cases h
    · rw [Skm, List.map_cons, List.map_cons] at h
      injection h with h1 h2
      have e : bad x = bad y := congrArg (fun t => t.2.1) h1
      rw [List.any_cons, List.any_cons, e, ih h2]
theorem Skm.mp {X Y : List Nd} (h : Skm X Y) (W : Int) : mp X W = mp Y W := by
  unfold Go.Proofs.YtilgoghnoeohnaaDoor.mp
  rw [h.len, h.frn.len, h.fmd 33, any_sm h, h.dpt 33, h.plc 33]
theorem sk_zn {d x : Nd} (h : vn d = zn x) (hd : d.p.L.length = d.p.n ∧ d.g.L.length = d.g.n) (hx : x.p.L.length = x.p.n ∧ x.g.L.length = x.g.n) : sk d = sk x := by
  obtain ⟨dk, ⟨px, pt, pa, pn, pc, pL⟩, dy, ⟨gx, gt, ga, gn, gc, gL⟩, lo, hi, s⟩ := d
  obtain ⟨xk, ⟨qx, qt, qa, qn, qc, qL⟩, xy, ⟨hx', ht, ha, hn, hc, hL⟩, lo', hi', s'⟩ := x
  unfold vn zn vq zq at h
  simp only [Prod.mk.injEq] at h hd hx
  obtain ⟨rfl, ⟨rfl, rfl, rfl⟩, rfl, ⟨rfl, rfl, rfl⟩, rfl, rfl, rfl⟩ := h
  rw [List.length_map, List.length_map] at hd
  obtain ⟨rfl, rfl⟩ := hd
  obtain ⟨rfl, rfl⟩ := hx
  unfold sk bad
  rw [pmay_nt, pmay_nt]
  rfl
theorem skm_zn : ∀ (D L : List Nd), D.map vn = L.map zn → (∀ v ∈ D, v.p.L.length = v.p.n ∧ v.g.L.length = v.g.n) → (∀ v ∈ L, v.p.L.length = v.p.n ∧ v.g.L.length = v.g.n) → Skm D L := by
  intro D
  induction D with
  | nil => intro L h _ _; rcases L with _ | ⟨y, L⟩; · rfl
           · cases h
  | cons d D ih =>
    intro L h hD hL
    rcases L with _ | ⟨y, L⟩
    · cases h
    · rw [List.map_cons, List.map_cons] at h
      injection h with h1 h2
      show List.map sk _ = List.map sk _
      rw [List.map_cons, List.map_cons, sk_zn h1 (hD d (by simp)) (hL y (by simp)), ih L h2 (fun v hv => hD v (by simp [hv])) (fun v hv => hL v (by simp [hv]))]
/- what came back may be just as what was put -/
theorem mp_zn {D L : List Nd} (h : D.map vn = L.map zn) (hD : ∀ v ∈ D, v.p.L.length = v.p.n ∧ v.g.L.length = v.g.n) (hL : ∀ v ∈ L, v.p.L.length = v.p.n ∧ v.g.L.length = v.g.n) (W : Int) : mp D W = mp L W := (skm_zn D L h hD hL).mp W
end Go.Proofs.YtilgoghnoeohnaaDoor
