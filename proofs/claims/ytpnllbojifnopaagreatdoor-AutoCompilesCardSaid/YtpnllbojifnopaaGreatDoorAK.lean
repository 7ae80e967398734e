/- Contracts, joined: AuG, AuH, AuK. -/
import Derived.Test.YtpnllbojifnopaaGreatDoorAuO
/- The document's automaton by value: places, first ones, last ones, edges, questions; and that they are the program's. -/
namespace Go.Proofs.YtpnllbojifnopaaGreatDoor
open Go Go.RowKit Pk Rl
set_option maxRecDepth 20000

/- parts with their first places -/
def bs (c : List Nd → Nat) : Nat → List (List Nd) → List (List Nd × Nat)
  | _, [] => []
  | n, p :: ps => (p, n) :: bs c (n + c p) ps
theorem bs_len (c : List Nd → Nat) (ps : List (List Nd)) : ∀ n, (bs c n ps).length = ps.length := by
  induction ps with
  | nil => intro n; rfl
  | cons p ps ih => intro n; simp [bs, ih]
theorem bs_mem (c : List Nd → Nat) (ps : List (List Nd)) : ∀ n, ∀ q ∈ bs c n ps, q.1 ∈ ps ∧ n ≤ q.2 ∧ q.2 + c q.1 ≤ n + (ps.map c).sum := by
  induction ps with
  | nil => intro n q hq; simp [bs] at hq
  | cons p ps ih =>
    intro n q hq
    rw [bs] at hq
    rcases List.mem_cons.1 hq with rfl | hq
    · refine ⟨List.mem_cons_self .., Nat.le_refl _, ?_⟩
      rw [List.map_cons, List.sum_cons]
      simp only
      omega
    · obtain ⟨h1, h2, h3⟩ := ih _ q hq
      refine ⟨List.mem_cons_of_mem _ h1, by omega, ?_⟩
      rw [List.map_cons, List.sum_cons]
      omega
abbrev d0 : List Nd × Nat := ([], 0)
theorem bs_get (c : List Nd → Nat) (ps : List (List Nd)) (n j : Nat) (hj : j < ps.length) : ((bs c n ps).getD j d0).1 ∈ ps ∧ n ≤ ((bs c n ps).getD j d0).2 ∧ ((bs c n ps).getD j d0).2 + c ((bs c n ps).getD j d0).1 ≤ n + (ps.map c).sum := by
  have hl : j < (bs c n ps).length := by rw [bs_len]; exact hj
  rw [List.getD_eq_getElem?_getD, List.getElem?_eq_getElem hl, Option.getD_some]
  exact bs_mem c ps n _ (List.getElem_mem hl)
theorem any_cons {α : Type} (G : Nat → α → Bool) (q : α) (qs : List α) (d : α) : ((List.range (q :: qs).length).any fun j => G j ((q :: qs).getD j d)) = (G 0 q || (List.range qs.length).any fun j => G (j + 1) (qs.getD j d)) := by
  rw [List.length_cons, List.range_succ_eq_map, List.any_cons, List.any_map]
  simp only [List.getD_cons_zero]
  rfl
theorem ex_cons {α : Type} (G : Nat → α → Prop) (q : α) (qs : List α) (d : α) : (∃ j, j < (q :: qs).length ∧ G j ((q :: qs).getD j d)) ↔ (G 0 q ∨ ∃ j, j < qs.length ∧ G (j + 1) (qs.getD j d)) := by
  constructor
  · rintro ⟨j, hj, h⟩
    cases j with
    | zero => exact .inl (by simpa using h)
    | succ j => exact .inr ⟨j, by simpa using hj, by simpa using h⟩
  · rintro (h | ⟨j, hj, h⟩)
    · exact ⟨0, by simp, by simpa using h⟩
    · exact ⟨j + 1, by simpa using hj, by simpa using h⟩
/- what the folds give, part by part -/
theorem ei_fi (f : List Nd → Nat → Res) (c : List Nd → Nat) (n i : Nat) (ps : List (List Nd)) (h : ∀ p ∈ ps, ∀ n, (f p n).2.2.1.length = c p) :
    ∀ s : Res, (ps.foldl (eis f n) s).1.testBit i = (s.1.testBit i || (List.range (bs c (n + s.2.2.1.length) ps).length).any fun j => (f ((bs c (n + s.2.2.1.length) ps).getD j d0).1 ((bs c (n + s.2.2.1.length) ps).getD j d0).2).1.testBit i) := by
  induction ps with
  | nil => intro s; simp [bs]
  | cons p ps ih =>
    intro s
    have hp := h p (List.mem_cons_self ..) (n + s.2.2.1.length)
    have e2 : n + (eis f n s p).2.2.1.length = n + s.2.2.1.length + c p := by unfold eis; simp only [List.length_append]; omega
    rw [List.foldl_cons, ih (fun q hq => h q (List.mem_cons_of_mem _ hq)), e2, bs, any_cons (fun _ (q : List Nd × Nat) => (f q.1 q.2).1.testBit i)]
    unfold eis
    simp only [Nat.testBit_or, Bool.or_assoc]
theorem ei_la (f : List Nd → Nat → Res) (c : List Nd → Nat) (n i : Nat) (ps : List (List Nd)) (h : ∀ p ∈ ps, ∀ n, (f p n).2.2.1.length = c p) :
    ∀ s : Res, (ps.foldl (eis f n) s).2.1.testBit i = (s.2.1.testBit i || (List.range (bs c (n + s.2.2.1.length) ps).length).any fun j => (f ((bs c (n + s.2.2.1.length) ps).getD j d0).1 ((bs c (n + s.2.2.1.length) ps).getD j d0).2).2.1.testBit i) := by
  induction ps with
  | nil => intro s; simp [bs]
  | cons p ps ih =>
    intro s
    have hp := h p (List.mem_cons_self ..) (n + s.2.2.1.length)
    have e2 : n + (eis f n s p).2.2.1.length = n + s.2.2.1.length + c p := by unfold eis; simp only [List.length_append]; omega
    rw [List.foldl_cons, ih (fun q hq => h q (List.mem_cons_of_mem _ hq)), e2, bs, any_cons (fun _ (q : List Nd × Nat) => (f q.1 q.2).2.1.testBit i)]
    unfold eis
    simp only [Nat.testBit_or, Bool.or_assoc]
theorem ei_E (f : List Nd → Nat → Res) (c : List Nd → Nat) (n : Nat) (e : EV) (ps : List (List Nd)) (h : ∀ p ∈ ps, ∀ n, (f p n).2.2.1.length = c p) :
    ∀ s : Res, e ∈ (ps.foldl (eis f n) s).2.2.2 ↔ (e ∈ s.2.2.2 ∨ ∃ j, j < (bs c (n + s.2.2.1.length) ps).length ∧ e ∈ (f ((bs c (n + s.2.2.1.length) ps).getD j d0).1 ((bs c (n + s.2.2.1.length) ps).getD j d0).2).2.2.2) := by
  induction ps with
  | nil => intro s; simp [bs]
  | cons p ps ih =>
    intro s
    have hp := h p (List.mem_cons_self ..) (n + s.2.2.1.length)
    have e2 : n + (eis f n s p).2.2.1.length = n + s.2.2.1.length + c p := by unfold eis; simp only [List.length_append]; omega
    rw [List.foldl_cons, ih (fun q hq => h q (List.mem_cons_of_mem _ hq)), e2, bs, ex_cons (fun _ (q : List Nd × Nat) => e ∈ (f q.1 q.2).2.2.2)]
    unfold eis
    simp only [List.mem_append, or_assoc]
theorem ei_P (f : List Nd → Nat → Res) (c : List Nd → List VQ) (n : Nat) (ps : List (List Nd)) (h : ∀ p ∈ ps, ∀ n, (f p n).2.2.1 = c p) : ∀ s : Res, (ps.foldl (eis f n) s).2.2.1 = s.2.2.1 ++ ps.flatMap c := by
  induction ps with
  | nil => intro s; simp
  | cons p ps ih =>
    intro s
    rw [List.foldl_cons, ih (fun q hq => h q (List.mem_cons_of_mem _ hq)), List.flatMap_cons]
    unfold eis
    simp only [h p (List.mem_cons_self ..), List.append_assoc]
theorem ch_fi (f : List Nd → Nat → Res) (n : Nat) (y : Bool) (g : VQ) (least : Nat) (ps : List (List Nd)) : ∀ s : Cs, 0 < s.i → (ps.foldl (cst f n y g least) s).fi = s.fi := by
  induction ps with
  | nil => intro s _; rfl
  | cons p ps ih =>
    intro s hs
    rw [List.foldl_cons, ih _ (by show 0 < s.i + 1; omega)]
    unfold cst
    simp only [if_neg (by omega : ¬ s.i = 0)]
theorem ch_la (f : List Nd → Nat → Res) (c : List Nd → Nat) (n i : Nat) (y : Bool) (g : VQ) (least : Nat) (ps : List (List Nd)) (h : ∀ p ∈ ps, ∀ n, (f p n).2.2.1.length = c p) :
    ∀ s : Cs, (ps.foldl (cst f n y g least) s).la.testBit i = (s.la.testBit i || (List.range (bs c (n + s.P.length) ps).length).any fun j => decide (least ≤ s.i + j + 1) && (f ((bs c (n + s.P.length) ps).getD j d0).1 ((bs c (n + s.P.length) ps).getD j d0).2).2.1.testBit i) := by
  induction ps with
  | nil => intro s; simp [bs]
  | cons p ps ih =>
    intro s
    have hp := h p (List.mem_cons_self ..) (n + s.P.length)
    have e2 : n + (cst f n y g least s p).P.length = n + s.P.length + c p := by unfold cst; simp only [List.length_append]; omega
    have e3 : ∀ j, (cst f n y g least s p).i + j + 1 = s.i + (j + 1) + 1 := fun j => by show s.i + 1 + j + 1 = _; omega
    rw [List.foldl_cons, ih (fun q hq => h q (List.mem_cons_of_mem _ hq)), e2, bs, any_cons (fun j (q : List Nd × Nat) => decide (least ≤ s.i + j + 1) && (f q.1 q.2).2.1.testBit i)]
    simp only [e3]
    unfold cst
    by_cases c1 : least ≤ s.i + 1
    · simp only [if_pos c1, Nat.testBit_or, Bool.or_assoc, Nat.add_zero, decide_eq_true c1, Bool.true_and]
    · simp only [if_neg c1, Nat.add_zero, decide_eq_false c1, Bool.false_and, Bool.false_or]
theorem ch_E (f : List Nd → Nat → Res) (c : List Nd → Nat) (n : Nat) (y : Bool) (g : VQ) (least : Nat) (e : EV) (ps : List (List Nd)) (h : ∀ p ∈ ps, ∀ n, (f p n).2.2.1.length = c p) :
    ∀ s : Cs, e ∈ (ps.foldl (cst f n y g least) s).E ↔ (e ∈ s.E ∨ ∃ j, j < (bs c (n + s.P.length) ps).length ∧ (e ∈ (f ((bs c (n + s.P.length) ps).getD j d0).1 ((bs c (n + s.P.length) ps).getD j d0).2).2.2.2
      ∨ e ∈ jn y g (if j = 0 then s.al else (f ((bs c (n + s.P.length) ps).getD (j - 1) d0).1 ((bs c (n + s.P.length) ps).getD (j - 1) d0).2).2.1) (f ((bs c (n + s.P.length) ps).getD j d0).1 ((bs c (n + s.P.length) ps).getD j d0).2).1)) := by
  induction ps with
  | nil => intro s; simp [bs]
  | cons p ps ih =>
    intro s
    have hp := h p (List.mem_cons_self ..) (n + s.P.length)
    have e2 : n + (cst f n y g least s p).P.length = n + s.P.length + c p := by unfold cst; simp only [List.length_append]; omega
    rw [List.foldl_cons, ih (fun q hq => h q (List.mem_cons_of_mem _ hq)), e2, bs]
    generalize bs c (n + s.P.length + c p) ps = qs
    have e3 : (cst f n y g least s p).al = (f p (n + s.P.length)).2.1 := rfl
    have e4 : e ∈ (cst f n y g least s p).E ↔ (e ∈ s.E ∨ e ∈ (f p (n + s.P.length)).2.2.2 ∨ e ∈ jn y g s.al (f p (n + s.P.length)).1) := by
      show e ∈ s.E ++ (f p (n + s.P.length)).2.2.2 ++ jn y g s.al (f p (n + s.P.length)).1 ↔ _
      simp only [List.mem_append, or_assoc]
    rw [e3, e4]
    constructor
    · rintro ((h1 | h1 | h1) | ⟨j, hj, h1⟩)
      · exact .inl h1
      · exact .inr ⟨0, by simp, .inl (by simpa using h1)⟩
      · exact .inr ⟨0, by simp, .inr (by simpa using h1)⟩
      · refine .inr ⟨j + 1, by simpa using hj, ?_⟩
        rcases h1 with h1 | h1
        · exact .inl (by simpa using h1)
        · refine .inr ?_
          rw [if_neg (by omega), List.getD_cons_succ, show j + 1 - 1 = j from rfl]
          cases j with
          | zero => simpa using h1
          | succ j => rw [List.getD_cons_succ]; simpa using h1
    · rintro (h1 | ⟨j, hj, h1⟩)
      · exact .inl (.inl h1)
      · cases j with
        | zero =>
          rcases h1 with h1 | h1
          · exact .inl (.inr (.inl (by simpa using h1)))
          · exact .inl (.inr (.inr (by simpa using h1)))
        | succ j =>
          refine .inr ⟨j, by simpa using hj, ?_⟩
          rcases h1 with h1 | h1
          · exact .inl (by simpa using h1)
          · refine .inr ?_
            rw [if_neg (by omega), List.getD_cons_succ, show j + 1 - 1 = j from rfl] at h1
            cases j with
            | zero => simpa using h1
            | succ j => rw [List.getD_cons_succ] at h1; simpa using h1
theorem ch_P (f : List Nd → Nat → Res) (c : List Nd → List VQ) (n : Nat) (y : Bool) (g : VQ) (least : Nat) (ps : List (List Nd)) (h : ∀ p ∈ ps, ∀ n, (f p n).2.2.1 = c p) : ∀ s : Cs, (ps.foldl (cst f n y g least) s).P = s.P ++ ps.flatMap c := by
  induction ps with
  | nil => intro s; simp
  | cons p ps ih =>
    intro s
    rw [List.foldl_cons, ih (fun q hq => h q (List.mem_cons_of_mem _ hq)), List.flatMap_cons]
    unfold cst
    simp only [h p (List.mem_cons_self ..), List.append_assoc]
end Go.Proofs.YtpnllbojifnopaaGreatDoor

/- The document's automaton by value: places, first ones, last ones, edges, questions; and that they are the program's. -/
namespace Go.Proofs.YtpnllbojifnopaaGreatDoor
open Go Go.RowKit Pk Rl
set_option maxRecDepth 20000

/- copies stand as parts -/
def wps (l : List Nd) : List (List Nd) := if (l.headD nz).k = 4 then (List.replicate (l.headD nz).hi.toNat (pts l)).flatten else pts l
abbrev wp (k : Nat) (l : List Nd) (n : Nat) : List (List Nd × Nat) := bs (cnt k) n (wps l)
def wf : Nat → List Nd → Nat → Nat → Bool
  | 0, _, _, _ => false
  | k + 1, l, n, i => if (l.headD nz).k = 1 then decide (n = i) else (List.range (wp k l n).length).any fun j => wf k ((wp k l n).getD j d0).1 ((wp k l n).getD j d0).2 i && (decide (j = 0) || decide ((l.headD nz).k = 3))
def wend (l : List Nd) (m j : Nat) : Bool := decide (j + 1 = m) || (decide ((l.headD nz).k = 3) || (decide ((l.headD nz).k = 4) && decide ((l.headD nz).lo ≤ (j : Int) + 1)))
def wl : Nat → List Nd → Nat → Nat → Bool
  | 0, _, _, _ => false
  | k + 1, l, n, i => if (l.headD nz).k = 1 then decide (n = i) else (List.range (wp k l n).length).any fun j => wend l (wp k l n).length j && wl k ((wp k l n).getD j d0).1 ((wp k l n).getD j d0).2 i
def we : Nat → List Nd → Nat → Nat → Nat → Option Nd
  | 0, _, _, _, _ => none
  | k + 1, l, n, f, t => if (l.headD nz).k = 1 then none else (List.range (wp k l n).length).findSome? fun j =>
      (we k ((wp k l n).getD j d0).1 ((wp k l n).getD j d0).2 f t).or
        (if (l.headD nz).k ≠ 3 ∧ 0 < j ∧ wl k ((wp k l n).getD (j - 1) d0).1 ((wp k l n).getD (j - 1) d0).2 f = true ∧ wf k ((wp k l n).getD j d0).1 ((wp k l n).getD j d0).2 t = true then some (l.headD nz) else none)
def wq : Nat → List Nd → List VQ
  | 0, _ => []
  | k + 1, l => if (l.headD nz).k = 1 then [vq (l.headD nz).p] else (wps l).flatMap (wq k)

/- which kinds there are -/
structure Kw (k : Nat) (l : List Nd) : Prop where
  ne : wps l ≠ []
  sub : ∀ p ∈ wps l, fmd k p = true ∧ frn p = p
  cn : cnt (k + 1) l = ((wps l).map (cnt k)).sum
  aut : ∀ n, ((l.headD nz).k = 3 ∧ au (k + 1) l n = ei (au k) n (wps l)) ∨
    ((l.headD nz).k ≠ 3 ∧ ∃ least, au (k + 1) l n = ch (au k) n (l.headD nz).y (vq (l.headD nz).g) least (wps l) ∧ ∀ j, j < (wps l).length → wend l (wps l).length j = decide (least ≤ j + 1))
theorem kw_of {k : Nat} {l : List Nd} (h : fmd (k + 1) l = true) : ((l.headD nz).k = 1 ∧ pts l = []) ∨ ((l.headD nz).k ≠ 1 ∧ Kw k l) := by
  unfold fmd at h
  rw [Bool.and_eq_true] at h
  obtain ⟨x, q, ps, h1, h2, h3, h4⟩ := ofp_spl h.1
  have hk := kd_k h.2
  have hm := h.2
  have SUB : ∀ p ∈ pts l, fmd k p = true ∧ frn p = p := fun p hp => ⟨List.all_eq_true.1 h4 p (by rw [← h3]; exact hp), (pts_mem p hp).2.1⟩
  rcases hk with hk | hk | hk | hk
  · refine .inl ⟨hk, ?_⟩
    unfold kd at hm
    rw [if_pos hk] at hm
    simp only [Bool.and_eq_true, decide_eq_true_eq] at hm
    exact List.eq_nil_of_length_eq_zero hm.1.1.1.1
  · have hw : wps l = pts l := by unfold wps; rw [if_neg (by omega)]
    have := kd_m2 hm (.inl hk)
    refine .inr ⟨by omega, fun e => ?_, by rw [hw]; exact SUB, ?_, fun n => .inr ⟨by omega, (pts l).length, ?_, fun j hj => ?_⟩⟩
    · rw [← hw, e] at this
      simp at this
    · rw [hw]
      show (if (l.headD nz).k = 1 then 1 else if (l.headD nz).k = 4 then _ else _) = _
      rw [if_neg (by omega), if_neg (by omega)]
    · rw [hw]
      show (if (l.headD nz).k = 2 then _ else _) = _
      rw [if_pos hk]
    · rw [hw] at hj ⊢
      unfold wend
      rw [decide_eq_false (by omega : ¬ (l.headD nz).k = 3), decide_eq_false (by omega : ¬ (l.headD nz).k = 4)]
      simp only [Bool.false_and, Bool.or_false]
      exact decide_eq_decide.2 ⟨by omega, by omega⟩
  · have hw : wps l = pts l := by unfold wps; rw [if_neg (by omega)]
    have := kd_m2 hm (.inr hk)
    refine .inr ⟨by omega, fun e => ?_, by rw [hw]; exact SUB, ?_, fun n => .inl ⟨hk, ?_⟩⟩
    · rw [← hw, e] at this
      simp at this
    · rw [hw]
      show (if (l.headD nz).k = 1 then 1 else if (l.headD nz).k = 4 then _ else _) = _
      rw [if_neg (by omega), if_neg (by omega)]
    · rw [hw]
      show (if (l.headD nz).k = 2 then _ else if (l.headD nz).k = 3 then _ else _) = _
      rw [if_neg (by omega), if_pos hk]
  · obtain ⟨m1, m2, m3, m4⟩ := kd_rep hm hk
    obtain ⟨p0, hp0⟩ : ∃ p, pts l = [p] := List.length_eq_one_iff.1 m1
    have hw : wps l = List.replicate (l.headD nz).hi.toNat p0 := by
      unfold wps
      rw [if_pos hk, hp0]
      generalize (l.headD nz).hi.toNat = m
      induction m with
      | zero => rfl
      | succ m ih => rw [List.replicate_succ, List.flatten_cons, ih, List.replicate_succ]; rfl
    have hlen : (wps l).length = (l.headD nz).hi.toNat := by rw [hw, List.length_replicate]
    refine .inr ⟨by omega, fun e => ?_, fun p hp => ?_, ?_, fun n => .inr ⟨by omega, (l.headD nz).lo.toNat, ?_, fun j hj => ?_⟩⟩
    · rw [e] at hlen
      simp only [List.length_nil] at hlen
      omega
    · rw [hw] at hp
      rw [(List.mem_replicate.1 hp).2]
      exact SUB p0 (by rw [hp0]; simp)
    · rw [hw, sum_rep]
      show (if (l.headD nz).k = 1 then 1 else if (l.headD nz).k = 4 then _ else _) = _
      rw [if_neg (by omega), if_pos hk, hp0]
      simp [Nat.mul_comm]
    · rw [hw]
      show (if (l.headD nz).k = 2 then _ else if (l.headD nz).k = 3 then _ else if (l.headD nz).k = 4 then _ else _) = _
      rw [if_neg (by omega), if_neg (by omega), if_pos hk, hp0, List.headD_cons]
    · rw [hlen] at hj ⊢
      unfold wend
      rw [decide_eq_false (by omega : ¬ (l.headD nz).k = 3), decide_eq_true hk]
      simp only [Bool.true_and, Bool.false_or]
      by_cases c : (l.headD nz).lo ≤ (j : Int) + 1
      · rw [decide_eq_true c, Bool.or_true, decide_eq_true (by omega)]
      · rw [decide_eq_false c, Bool.or_false, decide_eq_false (by omega : ¬ (l.headD nz).lo.toNat ≤ j + 1)]
        exact decide_eq_false (by omega)
theorem any_congr {N : Nat} {G H : Nat → Bool} (h : ∀ j, j < N → G j = H j) : (List.range N).any G = (List.range N).any H := by
  rw [Bool.eq_iff_iff, List.any_eq_true, List.any_eq_true]
  constructor
  · rintro ⟨j, hj, e⟩; exact ⟨j, hj, by rw [← h j (List.mem_range.1 hj)]; exact e⟩
  · rintro ⟨j, hj, e⟩; exact ⟨j, hj, by rw [h j (List.mem_range.1 hj)]; exact e⟩
theorem Kw.len {k : Nat} {l : List Nd} (h : Kw k l) : ∀ p ∈ wps l, ∀ n, (au k p n).2.2.1.length = cnt k p := fun p hp n => (au_cn k p (h.sub p hp).1 (h.sub p hp).2).p n

theorem wf_au (k : Nat) : ∀ l : List Nd, fmd k l = true → frn l = l → ∀ n i, (au k l n).1.testBit i = wf k l n i := by
  induction k with
  | zero => intro l h; cases h
  | succ k ih =>
    intro l h hf n i
    rcases kw_of h with ⟨h1, _⟩ | ⟨h1, K⟩
    · unfold wf au
      rw [if_pos h1, if_neg (by omega), if_neg (by omega), if_neg (by omega)]
      simp only
      rw [Nat.testBit_two_pow]
    · have IH : ∀ p ∈ wps l, ∀ n, (au k p n).1.testBit i = wf k p n i := fun p hp n => ih p (K.sub p hp).1 (K.sub p hp).2 n i
      unfold wf
      rw [if_neg h1]
      rcases K.aut n with ⟨h3, e⟩ | ⟨h3, least, e, _⟩
      · rw [e]
        unfold ei
        rw [ei_fi (au k) (cnt k) n i (wps l) K.len]
        simp only [List.length_nil, Nat.add_zero, Nat.zero_testBit, Bool.false_or, decide_eq_true h3, Bool.or_true, Bool.and_true]
        refine any_congr fun j hj => ?_
        rw [bs_len] at hj
        exact IH _ (bs_get _ _ _ _ hj).1 _
      · rw [e]
        show (chf (au k) n _ _ _ _).fi.testBit i = _
        unfold chf
        obtain ⟨p, ps, hps⟩ := List.exists_cons_of_ne_nil K.ne
        unfold wp
        rw [hps, List.foldl_cons, ch_fi _ _ _ _ _ _ _ (by show 0 < 0 + 1; omega), bs, any_cons (fun j (q : List Nd × Nat) => wf k q.1 q.2 i && (decide (j = 0) || decide ((l.headD nz).k = 3)))]
        have e2 : (List.range (bs (cnt k) (n + cnt k p) ps).length).any (fun j => wf k ((bs (cnt k) (n + cnt k p) ps).getD j d0).1 ((bs (cnt k) (n + cnt k p) ps).getD j d0).2 i && (decide (j + 1 = 0) || decide ((l.headD nz).k = 3))) = false := by
          rw [List.any_eq_false]
          intro j _
          rw [decide_eq_false h3, decide_eq_false (by omega : ¬ j + 1 = 0)]
          simp
        rw [e2, Bool.or_false]
        simp only [decide_true, Bool.true_or, Bool.and_true]
        exact IH p (by rw [hps]; simp) n
theorem wl_au (k : Nat) : ∀ l : List Nd, fmd k l = true → frn l = l → ∀ n i, (au k l n).2.1.testBit i = wl k l n i := by
  induction k with
  | zero => intro l h; cases h
  | succ k ih =>
    intro l h hf n i
    rcases kw_of h with ⟨h1, _⟩ | ⟨h1, K⟩
    · unfold wl au
      rw [if_pos h1, if_neg (by omega), if_neg (by omega), if_neg (by omega)]
      simp only
      rw [Nat.testBit_two_pow]
    · have IH : ∀ p ∈ wps l, ∀ n, (au k p n).2.1.testBit i = wl k p n i := fun p hp n => ih p (K.sub p hp).1 (K.sub p hp).2 n i
      unfold wl
      rw [if_neg h1]
      rcases K.aut n with ⟨h3, e⟩ | ⟨h3, least, e, hw⟩
      · rw [e]
        unfold ei
        rw [ei_la (au k) (cnt k) n i (wps l) K.len]
        simp only [List.length_nil, Nat.add_zero, Nat.zero_testBit, Bool.false_or]
        refine any_congr fun j hj => ?_
        rw [bs_len] at hj
        have e3 : wend l (bs (cnt k) n (wps l)).length j = true := by unfold wend; rw [decide_eq_true h3]; simp
        rw [e3, Bool.true_and]
        exact IH _ (bs_get _ _ _ _ hj).1 _
      · rw [e]
        show (chf (au k) n _ _ _ _).la.testBit i = _
        unfold chf
        rw [ch_la (au k) (cnt k) n i _ _ _ (wps l) K.len]
        simp only [cs0, List.length_nil, Nat.add_zero, Nat.zero_testBit, Bool.false_or, Nat.zero_add]
        refine any_congr fun j hj => ?_
        rw [bs_len] at hj
        rw [bs_len, hw j hj, IH _ (bs_get _ _ _ _ hj).1 _]
theorem wq_au (k : Nat) : ∀ l : List Nd, fmd k l = true → frn l = l → ∀ n, (au k l n).2.2.1 = wq k l := by
  induction k with
  | zero => intro l h; cases h
  | succ k ih =>
    intro l h hf n
    rcases kw_of h with ⟨h1, _⟩ | ⟨h1, K⟩
    · unfold wq au
      rw [if_pos h1, if_neg (by omega), if_neg (by omega), if_neg (by omega)]
    · have IH : ∀ p ∈ wps l, ∀ n, (au k p n).2.2.1 = wq k p := fun p hp n => ih p (K.sub p hp).1 (K.sub p hp).2 n
      unfold wq
      rw [if_neg h1]
      rcases K.aut n with ⟨h3, e⟩ | ⟨h3, least, e, _⟩
      · rw [e]
        unfold ei
        rw [ei_P (au k) (wq k) n (wps l) IH]
        rfl
      · rw [e]
        show (chf (au k) n _ _ _ _).P = _
        unfold chf
        rw [ch_P (au k) (wq k) n _ _ _ (wps l) IH]
        rfl
end Go.Proofs.YtpnllbojifnopaaGreatDoor

/- The document's edges by value, and that they are the program's. -/
namespace Go.Proofs.YtpnllbojifnopaaGreatDoor
open Go Go.RowKit Pk Rl
set_option maxRecDepth 20000

theorem find_some {α : Type} {G : Nat → Option α} {N : Nat} {x : α} (h : (List.range N).findSome? G = some x) : ∃ j, j < N ∧ G j = some x := by
  obtain ⟨j, hj, e⟩ := List.exists_of_findSome?_eq_some h
  exact ⟨j, List.mem_range.1 hj, e⟩
theorem find_ne {α : Type} {G : Nat → Option α} {N : Nat} {j : Nat} (hj : j < N) (h : G j ≠ none) : (List.range N).findSome? G ≠ none := by
  intro e
  rw [List.findSome?_eq_none_iff] at e
  exact h (e j (List.mem_range.2 hj))
theorem jn_zero (y : Bool) (g : VQ) (b : Nat) : jn y g 0 b = [] := by
  rw [List.eq_nil_iff_forall_not_mem]
  intro e he
  have := (btz_mem.1 (jn_mem.1 he).1).2
  simp at this
theorem we_mem (k : Nat) : ∀ l : List Nd, fmd k l = true → frn l = l → ∀ n, n + cnt k l ≤ 32 → ∀ f t x, we k l n f t = some x → (f, t, x.y, vq x.g) ∈ (au k l n).2.2.2 := by
  induction k with
  | zero => intro l h; cases h
  | succ k ih =>
    intro l h hf n hn f t x hx
    rcases kw_of h with ⟨h1, _⟩ | ⟨h1, K⟩
    · unfold we at hx
      rw [if_pos h1] at hx
      cases hx
    · unfold we at hx
      rw [if_neg h1] at hx
      obtain ⟨j, hj, e⟩ := find_some hx
      have hN := K.cn
      rw [hN] at hn
      have hj' : j < (wps l).length := by rw [bs_len] at hj; exact hj
      obtain ⟨g1, g2, g3⟩ := bs_get (cnt k) (wps l) n j hj'
      rw [Option.or_eq_some_iff] at e
      rcases K.aut n with ⟨h3, e3⟩ | ⟨h3, least, e3, hw⟩
      · rw [e3]
        unfold ei
        rw [ei_E (au k) (cnt k) n _ (wps l) K.len]
        simp only [List.length_nil, Nat.add_zero]
        refine .inr ⟨j, hj, ?_⟩
        rcases e with e | ⟨_, e⟩
        · exact ih _ (K.sub _ g1).1 (K.sub _ g1).2 _ (by omega) f t x e
        · rw [if_neg (fun c => c.1 h3)] at e
          cases e
      · rw [e3]
        show _ ∈ (chf (au k) n _ _ _ _).E
        unfold chf
        rw [ch_E (au k) (cnt k) n _ _ _ _ (wps l) K.len]
        simp only [cs0, List.length_nil, Nat.add_zero]
        refine .inr ⟨j, hj, ?_⟩
        rcases e with e | ⟨_, e⟩
        · exact .inl (ih _ (K.sub _ g1).1 (K.sub _ g1).2 _ (by omega) f t x e)
        · split at e
          · rename_i c
            injection e with e
            subst e
            refine .inr (jn_mem.2 ⟨?_, ?_, rfl⟩)
            · rw [if_neg (by omega)]
              obtain ⟨q1, q2, q3⟩ := bs_get (cnt k) (wps l) n (j - 1) (by omega)
              have hl := wl_au k _ (K.sub _ q1).1 (K.sub _ q1).2 ((bs (cnt k) n (wps l)).getD (j - 1) d0).2 f
              rw [c.2.2.1] at hl
              have hr := (au_ok k _ (K.sub _ q1).1 (K.sub _ q1).2 ((bs (cnt k) n (wps l)).getD (j - 1) d0).2).lr f hl
              rw [K.len _ q1] at hr
              exact btz_mem.2 ⟨by simp only; omega, hl⟩
            · have hl := wf_au k _ (K.sub _ g1).1 (K.sub _ g1).2 ((bs (cnt k) n (wps l)).getD j d0).2 t
              rw [c.2.2.2] at hl
              have hr := (au_ok k _ (K.sub _ g1).1 (K.sub _ g1).2 ((bs (cnt k) n (wps l)).getD j d0).2).fr t hl
              rw [K.len _ g1] at hr
              exact btz_mem.2 ⟨by simp only; omega, hl⟩
          · cases e
theorem we_ne (k : Nat) : ∀ l : List Nd, fmd k l = true → frn l = l → ∀ n, ∀ e ∈ (au k l n).2.2.2, we k l n e.1 e.2.1 ≠ none := by
  induction k with
  | zero => intro l h; cases h
  | succ k ih =>
    intro l h hf n e he
    rcases kw_of h with ⟨h1, _⟩ | ⟨h1, K⟩
    · unfold au at he
      rw [if_neg (by omega), if_neg (by omega), if_neg (by omega)] at he
      simp at he
    · unfold we
      rw [if_neg h1]
      rcases K.aut n with ⟨h3, e3⟩ | ⟨h3, least, e3, hw⟩
      · rw [e3] at he
        unfold ei at he
        rw [ei_E (au k) (cnt k) n _ (wps l) K.len] at he
        simp only [List.length_nil, Nat.add_zero, List.not_mem_nil, false_or] at he
        obtain ⟨j, hj, he⟩ := he
        refine find_ne hj ?_
        have hj' : j < (wps l).length := by rw [bs_len] at hj; exact hj
        obtain ⟨g1, g2, g3⟩ := bs_get (cnt k) (wps l) n j hj'
        intro c
        rw [Option.or_eq_none_iff] at c
        exact ih _ (K.sub _ g1).1 (K.sub _ g1).2 _ e he c.1
      · rw [e3] at he
        have he2 : e ∈ (chf (au k) n (l.headD nz).y (vq (l.headD nz).g) least (wps l)).E := he
        unfold chf at he2
        rw [ch_E (au k) (cnt k) n _ _ _ _ (wps l) K.len] at he2
        simp only [cs0, List.length_nil, Nat.add_zero, List.not_mem_nil, false_or] at he2
        obtain ⟨j, hj, he2⟩ := he2
        refine find_ne hj ?_
        have hj' : j < (wps l).length := by rw [bs_len] at hj; exact hj
        obtain ⟨g1, g2, g3⟩ := bs_get (cnt k) (wps l) n j hj'
        intro c
        rw [Option.or_eq_none_iff] at c
        rcases he2 with he2 | he2
        · exact ih _ (K.sub _ g1).1 (K.sub _ g1).2 _ e he2 c.1
        · by_cases j0 : j = 0
          · rw [if_pos j0, jn_zero] at he2
            simp at he2
          · rw [if_neg j0] at he2
            obtain ⟨q1, q2, q3⟩ := bs_get (cnt k) (wps l) n (j - 1) (by omega)
            obtain ⟨a1, a2, _⟩ := jn_mem.1 he2
            have a1 := (btz_mem.1 a1).2
            have a2 := (btz_mem.1 a2).2
            rw [wl_au k _ (K.sub _ q1).1 (K.sub _ q1).2] at a1
            rw [wf_au k _ (K.sub _ g1).1 (K.sub _ g1).2] at a2
            have c2 := c.2
            rw [if_pos ⟨h3, by omega, a1, a2⟩] at c2
            cases c2
/- just the program's edges -/
theorem pw_eq {E : List EV} (h : E.Pairwise Dk) {a b : EV} (ha : a ∈ E) (hb : b ∈ E) (e1 : a.1 = b.1) (e2 : a.2.1 = b.2.1) : a = b := by
  induction h with
  | nil => simp at ha
  | @cons c E hc _ ih =>
    rcases List.mem_cons.1 ha with h1 | h1
    · rcases List.mem_cons.1 hb with h2 | h2
      · exact h1.trans h2.symm
      · rw [h1] at e1 e2
        exact absurd ⟨e1, e2⟩ (hc b h2)
    · rcases List.mem_cons.1 hb with h2 | h2
      · rw [h2] at e1 e2
        exact absurd ⟨e1.symm, e2.symm⟩ (hc a h1)
      · exact ih h1 h2
abbrev gv (f t : Nat) (x : Nd) : EV := (f, t, x.y, vq x.g)
theorem we_au (k : Nat) (l : List Nd) (h : fmd k l = true) (hf : frn l = l) (n : Nat) (hn : n + cnt k l ≤ 32) (e : EV) : e ∈ (au k l n).2.2.2 ↔ (we k l n e.1 e.2.1).map (gv e.1 e.2.1) = some e := by
  constructor
  · intro he
    rcases hx : we k l n e.1 e.2.1 with _ | x
    · exact absurd hx (we_ne k l h hf n e he)
    · have := we_mem k l h hf n hn _ _ _ hx
      rw [Option.map_some]
      exact congrArg some (pw_eq (au_ok k l h hf n).nd this he rfl rfl)
  · intro he
    obtain ⟨x, hx, e2⟩ := Option.map_eq_some_iff.1 he
    have := we_mem k l h hf n hn _ _ _ hx
    rw [show (e.1, e.2.1, x.y, vq x.g) = e from e2] at this
    exact this
/- the document's row of edges: by From, then by To -/
def wrow (k : Nat) (l : List Nd) (m : Nat) (f : Nat) : List EV := (List.range m).filterMap fun t => (we k l 0 f t).map (gv f t)
def wed (k : Nat) (l : List Nd) (m : Nat) : List EV := (List.range m).flatMap (wrow k l m)
def Lo (a b : EV) : Prop := a.1 < b.1 ∨ a.1 = b.1 ∧ a.2.1 < b.2.1
theorem wrow_mem {k : Nat} {l : List Nd} {m f : Nat} {e : EV} : e ∈ wrow k l m f ↔ e.1 = f ∧ e.2.1 < m ∧ (we k l 0 e.1 e.2.1).map (gv e.1 e.2.1) = some e := by
  unfold wrow
  rw [List.mem_filterMap]
  constructor
  · rintro ⟨t, ht, h⟩
    obtain ⟨x, hx, rfl⟩ := Option.map_eq_some_iff.1 h
    exact ⟨rfl, List.mem_range.1 ht, h⟩
  · rintro ⟨rfl, h2, h3⟩
    exact ⟨e.2.1, List.mem_range.2 h2, h3⟩
theorem wed_mem {k : Nat} {l : List Nd} {m : Nat} {e : EV} : e ∈ wed k l m ↔ e.1 < m ∧ e.2.1 < m ∧ (we k l 0 e.1 e.2.1).map (gv e.1 e.2.1) = some e := by
  unfold wed
  rw [List.mem_flatMap]
  constructor
  · rintro ⟨f, hf, h⟩
    obtain ⟨rfl, h2, h3⟩ := wrow_mem.1 h
    exact ⟨List.mem_range.1 hf, h2, h3⟩
  · rintro ⟨h1, h2, h3⟩
    exact ⟨e.1, List.mem_range.2 h1, wrow_mem.2 ⟨rfl, h2, h3⟩⟩
theorem wed_lo (k : Nat) (l : List Nd) (m : Nat) : (wed k l m).Pairwise Lo := by
  unfold wed
  rw [List.pairwise_flatMap]
  refine ⟨fun f _ => ?_, ?_⟩
  · unfold wrow
    rw [List.pairwise_filterMap]
    refine List.pairwise_lt_range.imp fun {a b} hab x hx y hy => ?_
    obtain ⟨_, _, rfl⟩ := Option.map_eq_some_iff.1 hx
    obtain ⟨_, _, rfl⟩ := Option.map_eq_some_iff.1 hy
    exact .inr ⟨rfl, hab⟩
  · refine List.pairwise_lt_range.imp fun {a b} hab x hx y hy => ?_
    have h1 := (wrow_mem.1 hx).1
    have h2 := (wrow_mem.1 hy).1
    exact .inl (by omega)
theorem lo_nodup {E : List EV} (h : E.Pairwise Lo) : E.Nodup := h.imp fun {a b} hl e => by
  subst e
  rcases hl with h | h
  · omega
  · omega
theorem lo_eq {A B : List EV} (ha : A.Pairwise Lo) (hb : B.Pairwise Lo) (h : ∀ e, e ∈ A ↔ e ∈ B) : A = B := by
  refine List.Perm.eq_of_pairwise (le := Lo) (fun a b _ _ h1 h2 => ?_) ha hb ((List.perm_ext_iff_of_nodup (lo_nodup ha) (lo_nodup hb)).2 h)
  rcases h1 with h1 | h1 <;> rcases h2 with h2 | h2 <;> omega
/- the program's row, put in order, is the document's -/
theorem wed_au (k : Nat) (l : List Nd) (h : fmd k l = true) (hf : frn l = l) (hn : cnt k l ≤ 32) (E : List EV) (hp : E.Perm (au k l 0).2.2.2) (hs : E.Pairwise Lo) : E = wed k l (cnt k l) := by
  refine lo_eq hs (wed_lo ..) fun e => ?_
  rw [hp.mem_iff, wed_mem, we_au k l h hf 0 (by omega)]
  refine ⟨fun h1 => ⟨?_, ?_, h1⟩, fun h1 => h1.2.2⟩
  all_goals
    have := (au_ok k l h hf 0).er e ((we_au k l h hf 0 (by omega) e).2 h1)
    rw [(au_cn k l h hf).p 0] at this
    omega
/- a set as the sum of its places' bits -/
def sbt (b : Nat → Bool) : Nat → Nat
  | 0 => 0
  | n + 1 => sbt b n + if b n = true then 2 ^ n else 0
theorem sbt_mod (x : Nat) (b : Nat → Bool) (h : ∀ i, x.testBit i = b i) (n : Nat) : sbt b n = x % 2 ^ n := by
  induction n with
  | zero => rw [Nat.pow_zero, Nat.mod_one]; rfl
  | succ n ih =>
    have e := h n
    rw [Nat.testBit_eq_decide_div_mod_eq] at e
    show sbt b n + (if b n = true then 2 ^ n else 0) = _
    rw [Nat.mod_pow_succ, ih, ← e]
    have h2 := Nat.mod_lt (x / 2 ^ n) (by omega : 2 > 0)
    by_cases c : x / 2 ^ n % 2 = 1
    · rw [if_pos (decide_eq_true c), c, Nat.mul_one]
    · rw [if_neg (by simp [c]), show x / 2 ^ n % 2 = 0 by omega, Nat.mul_zero]
theorem sbt_lt (b : Nat → Bool) (n : Nat) : sbt b n < 2 ^ n := by
  induction n with
  | zero => exact Nat.one_pos
  | succ n ih =>
    show sbt b n + (if b n = true then 2 ^ n else 0) < _
    rw [Nat.pow_succ]
    split <;> omega
end Go.Proofs.YtpnllbojifnopaaGreatDoor
