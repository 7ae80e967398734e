/- Contracts, joined: TrI, TrJ, TrK, TrL, TrM, TrN, TrO. -/
import Derived.Test.YtccjflioaajgiaaDoorMQ
import Derived.Deep.DeepCutAuto
/- The document's trees: what stands in memory; what they come to, by lists. -/
namespace Go.Proofs.YtccjflioaajgiaaDoor
open Go Go.RowKit Pk Rl
set_option maxRecDepth 20000

/- whether a tree is there; whether it is formed; its places -/
def bld : Nat → List Nd → Bool
  | 0, _ => false
  | k + 1, l => ofp (bld k) l
def fmT : Nat → List Nd → Bool
  | 0, _ => false
  | k + 1, l => kd (l.headD nz) (pts l).length && (pts l).all (fmT k)
def plT : Nat → List Nd → Int
  | 0, _ => 0
  | k + 1, l => if (pts l).length = 0 then 1 else
    let m := (pts l).foldl (fun m p => wrap64 (m + plT k p)) 0
    if (l.headD nz).k = 4 then wrap64 (m * (l.headD nz).hi) else m
theorem ofp_pts (F : List Nd → Bool) (l : List Nd) : ofp F l = (ofp (fun _ => true) l && (pts l).all F) := by
  by_cases h0 : frn l = []
  · rw [ofp_nil h0, ofp_nil h0]; rfl
  · rw [ofp_cons h0, ofp_cons h0]
    unfold pts
    rcases spl (frn l).tail with _ | ps
    · rfl
    · simp
theorem all_and (F G : List Nd → Bool) (ps : List (List Nd)) : ps.all (fun p => F p && G p) = (ps.all F && ps.all G) := by
  induction ps with
  | nil => rfl
  | cons p ps ih =>
    simp only [List.all_cons, ih]
    cases F p <;> cases G p <;> simp
theorem fmd_eq (k : Nat) (l : List Nd) : fmd k l = (bld k l && fmT k l) := by
  induction k generalizing l with
  | zero => rfl
  | succ k ih =>
    show (ofp (fmd k) l && kd (l.headD nz) (pts l).length) = (ofp (bld k) l && (kd (l.headD nz) (pts l).length && (pts l).all (fmT k)))
    rw [ofp_pts (fmd k), ofp_pts (bld k), show fmd k = fun p => bld k p && fmT k p from funext fun p => ih p, all_and]
    cases ofp (fun _ => true) l <;> cases (pts l).all (bld k) <;> cases (pts l).all (fmT k) <;> cases kd (l.headD nz) (pts l).length <;> rfl
theorem kd_one {n : Nd} {m : Nat} (h : kd n m = true) : n.k = 1 ↔ m = 0 := by
  unfold kd at h
  by_cases k1 : n.k = 1
  · rw [if_pos k1] at h
    simp at h
    exact ⟨fun _ => by omega, fun _ => k1⟩
  · rw [if_neg k1] at h
    refine ⟨fun e => absurd e k1, fun e => ?_⟩
    subst e
    by_cases k2 : n.k = 2
    · rw [if_pos k2] at h; simp at h
    · rw [if_neg k2] at h
      by_cases k3 : n.k = 3
      · rw [if_pos k3] at h; simp at h
      · rw [if_neg k3] at h
        by_cases k4 : n.k = 4
        · rw [if_pos k4] at h; simp at h
        · rw [if_neg k4] at h; cases h
theorem fold_congr (F G : List Nd → Int) (ps : List (List Nd)) (h : ∀ p ∈ ps, F p = G p) (m : Int) : ps.foldl (fun m p => wrap64 (m + F p)) m = ps.foldl (fun m p => wrap64 (m + G p)) m := by
  induction ps generalizing m with
  | nil => rfl
  | cons p ps ih =>
    rw [List.foldl_cons, List.foldl_cons, h p (by simp), ih (fun q hq => h q (by simp [hq]))]
theorem plT_eq (k : Nat) (l : List Nd) (h : fmT k l = true) : plT k l = plc k l := by
  induction k generalizing l with
  | zero => rfl
  | succ k ih =>
    unfold fmT at h
    rw [Bool.and_eq_true] at h
    have h1 := kd_one h.1
    unfold plT plc
    by_cases e : (pts l).length = 0
    · rw [if_pos e, if_pos (h1.2 e)]
    · rw [if_neg e, if_neg (fun c => e (h1.1 c))]
      rw [fold_congr (plT k) (plc k) (pts l) (fun p hp => ih p (List.all_eq_true.1 h.2 p hp))]

abbrev tcl12 (n : Nd) (A : Option Addr) (m C : Nat) : List Value := ncl n ++ [.slice A m C]
abbrev tOfT (n : Nd) (A : Option Addr) (m C : Nat) : Value := .agg #[.int .u8 n.k, .bool n.p.x, .int .u8 n.p.t, .slice n.p.a n.p.n n.p.c, .bool n.y, .bool n.g.x, .int .u8 n.g.t, .slice n.g.a n.g.n n.g.c, .int .u8 n.lo, .int .u8 n.hi, .int .i64 n.s, .slice A m C]
/- a row of trees: so deep, in such blocks -/
def Trs : Nat → World → (Nat → Prop) → Option Addr → List (List Nd) → Prop
  | 0, _, _, _, ps => ps = []
  | k + 1, w, F, a, ps => ∀ i, i < ps.length → ∃ b off A C, a = some ⟨b, off, none⟩ ∧ F b ∧ Atn w b (off + i * 12) ((ps.getD i []).headD nz) ∧ w.cell? ⟨b, off + i * 12 + 11, none⟩ = some (.slice A (pts (ps.getD i [])).length C) ∧ Trs k w F A (pts (ps.getD i []))
theorem Trs.same {k : Nat} : ∀ {w w' : World} {F G : Nat → Prop} {a : Option Addr} {ps : List (List Nd)}, Trs k w F a ps → (∀ b, F b → w'.heap[b]? = w.heap[b]?) → (∀ b, F b → G b) → Trs k w' G a ps := by
  induction k with
  | zero => intro w w' F G a ps h _ _; exact h
  | succ k ih =>
    intro w w' F G a ps h e g i hi
    obtain ⟨b, off, A, C, ha, hF, hn, hc, ht⟩ := h i hi
    exact ⟨b, off, A, C, ha, g b hF, hn.same fun j => World.cell?_of_block (e b hF), by rw [World.cell?_of_block (e b hF)]; exact hc, ih ht e g⟩
theorem Trs.below {k : Nat} {w w' : World} {F : Nat → Prop} {a : Option Addr} {ps : List (List Nd)} (h : Trs k w F a ps) (hb : Below w.heap.size w w') (hF : ∀ b, F b → b < w.heap.size) : Trs k w' F a ps :=
  h.same (fun b hf => hb.block b (hF b hf)) (fun _ hf => hf)
theorem Trs.nil (k : Nat) (w : World) (F : Nat → Prop) (a : Option Addr) : Trs k w F a [] := by
  cases k with
  | zero => rfl
  | succ k => exact fun i hi => absurd hi (by simp)
/- a row of trees of one's own -/
abbrev It := Nd × Option Addr × Nat × Nat
abbrev iz : It := (nz, none, 0, 0)
def icl (x : It) : List Value := tcl12 x.1 x.2.1 x.2.2.1 x.2.2.2
def icls (X : List It) : List Value := X.flatMap icl
theorem icl_len (x : It) : (icl x).length = 12 := rfl
theorem icls_len (X : List It) : (icls X).length = X.length * 12 := by
  induction X with
  | nil => rfl
  | cons v X ih => show (icl v ++ icls X).length = _; rw [List.length_append, ih, List.length_cons, icl_len]; omega
theorem icls_app (X Y : List It) : icls (X ++ Y) = icls X ++ icls Y := by unfold icls; rw [List.flatMap_append]
theorem icls_get (X : List It) (i : Nat) (hi : i < X.length) (j : Nat) (hj : j < 12) : (icls X)[i * 12 + j]? = (icl (X.getD i iz))[j]? := by
  induction X generalizing i with
  | nil => simp at hi
  | cons v X ih =>
    show (icl v ++ icls X)[i * 12 + j]? = _
    have h4 := icl_len v
    rcases i with _ | i
    · rw [List.getElem?_append_left (by omega)]; simp
    · rw [List.getElem?_append_right (by omega), h4, show (i + 1) * 12 + j - 12 = i * 12 + j by omega, ih i (by simpa using hi)]; simp
theorem icls_one (X : List It) : ∀ u ∈ icls X, u.oneCell' = true := by
  intro u hu
  obtain ⟨v, _, h⟩ := List.mem_flatMap.1 hu
  simp only [icl, tcl12, ncl, List.cons_append, List.nil_append, List.mem_cons, List.not_mem_nil, or_false] at h
  rcases h with rfl | rfl | rfl | rfl | rfl | rfl | rfl | rfl | rfl | rfl | rfl | rfl <;> rfl
def Kid (k : Nat) (w : World) (B : Nat) (v : Value) (p : List Nd) (x : It) : Prop :=
  x.1 = p.headD nz ∧ x.2.2.1 = (pts p).length ∧ Trs k w (fun b => B ≤ b ∧ b < w.heap.size ∧ v.ownBlock ≠ some b) x.2.1 (pts p)
theorem Kid.mono {k : Nat} {w w' : World} {B : Nat} {v : Value} {p : List Nd} {x : It} (h : Kid k w B v p x) (e : ∀ b, B ≤ b → b < w.heap.size → v.ownBlock ≠ some b → w'.heap[b]? = w.heap[b]?) (hs : w.heap.size ≤ w'.heap.size) : Kid k w' B v p x :=
  ⟨h.1, h.2.1, h.2.2.same (fun b hb => e b hb.1 hb.2.1 hb.2.2) (fun b hb => ⟨hb.1, by omega, hb.2.2⟩)⟩
theorem igetD_app (X : List It) (x : It) (i : Nat) (h : i < X.length) : (X ++ [x]).getD i iz = X.getD i iz := by
  simp [List.getD_eq_getElem?_getD, List.getElem?_append_left h]
theorem igetD_last (X : List It) (x : It) : (X ++ [x]).getD X.length iz = x := by simp [List.getD_eq_getElem?_getD]
end Go.Proofs.YtccjflioaajgiaaDoor

/- The document's build: trees out of nodes. -/
namespace Go.Proofs.YtccjflioaajgiaaDoor
open Go Go.RowKit Pk Rl
set_option maxRecDepth 20000

/- what build answers -/
def Bt (k : Nat) (w : World) (at_ : Nat) (l : List Nd) (e : Ending) (w' : World) : Prop :=
  ∃ nd A m C N, e = .returned (.tuple #[tOfT nd A m C, .int .i64 (N : Int), .bool (bld k l)]) ∧ (bld k l = true → nd = l.headD nz ∧ m = (pts l).length ∧ N = ((at_ + (frn l).length : Nat) : Int) ∧ Trs k w' (fun b => w.heap.size ≤ b ∧ b < w'.heap.size) A (pts l))
theorem headD_frn {l : List Nd} (h : frn l ≠ []) : l.headD nz = (frn l).headD nz := by
  rcases l with _ | ⟨n, r⟩
  · exact absurd rfl h
  · rw [frn_cons] at h ⊢
    split
    · rename_i hc; rw [if_pos hc] at h; exact absurd rfl h
    · rfl
end Go.Proofs.YtccjflioaajgiaaDoor

/- The document's build, walked. -/
namespace Go.Proofs.YtccjflioaajgiaaDoor
open Go Go.RowKit Pk Rl
set_option maxRecDepth 20000

/- a stretch of a row -/
def sub (L : List Nd) (i j : Nat) : List Nd := (L.take j).drop i
theorem sub_len (L : List Nd) (i j : Nat) (h : j ≤ L.length) : (sub L i j).length = j - i := by
  unfold sub; rw [List.length_drop, List.length_take, Nat.min_eq_left h]
theorem sub_cons (L : List Nd) (i j : Nat) (h : i < j) (hj : j ≤ L.length) : sub L i j = L.getD i nz :: sub L (i + 1) j := by
  unfold sub
  rw [ndrop_cons (L.take j) i (by rw [List.length_take, Nat.min_eq_left hj]; exact h), getD_take L j i h]
theorem sub_nil (L : List Nd) (i j : Nat) (h : j ≤ i) : sub L i j = [] := by
  unfold sub
  exact List.drop_eq_nil_of_le (by rw [List.length_take]; omega)
theorem sub_drop (L : List Nd) (i j m : Nat) : (sub L i j).drop m = sub L (i + m) j := by unfold sub; rw [List.drop_drop]
theorem sub_take (L : List Nd) (i j m : Nat) (h : i + m ≤ j) : (sub L i j).take m = sub L i (i + m) := by
  unfold sub
  rw [List.take_drop, List.take_take, Nat.min_eq_left h]
theorem frn_sub (L : List Nd) (i j s : Nat) (h : i + 1 + s ≤ j) (hj : j ≤ L.length) (hs : (L.getD i nz).s = (s : Int)) : frn (sub L i j) = L.getD i nz :: sub L (i + 1) (i + 1 + s) := by
  rw [sub_cons L i j (by omega) hj, frn_cons, if_neg (by rw [sub_len L _ _ hj, hs]; omega), hs, Int.toNat_natCast, sub_take L (i + 1) j s h]
theorem frn_bad (L : List Nd) (i j : Nat) (h : i < j) (hj : j ≤ L.length) (hs : (L.getD i nz).s < 0 ∨ (j : Int) - i - 1 < (L.getD i nz).s) : frn (sub L i j) = [] := by
  rw [sub_cons L i j h hj, frn_cons, if_pos (by rw [sub_len L _ _ hj]; omega)]
theorem bld_frn (k : Nat) (l : List Nd) : bld k (frn l) = bld k l := by
  cases k with
  | zero => rfl
  | succ k => show ofp (bld k) (frn l) = ofp (bld k) l; unfold ofp; rw [frn_idem]
theorem pts_frn (l : List Nd) : pts (frn l) = pts l := by unfold pts; rw [frn_idem]
theorem bld_no {k : Nat} {l : List Nd} (h : frn l = []) : bld k l = false := by
  cases k with
  | zero => rfl
  | succ k => exact ofp_nil h
/- nothing was built -/
theorem Bt.no {k : Nat} {w w' : World} {at_ : Nat} {l : List Nd} (h : bld k l = false) : Bt k w at_ l (.returned (.tuple #[tOfT nz none 0 0, .int .i64 0, .bool false])) w' :=
  ⟨nz, none, 0, 0, 0, by rw [h], fun e => by rw [h] at e; cases e⟩
end Go.Proofs.YtccjflioaajgiaaDoor

/- The document's Tree, Depth and Places of trees. -/
namespace Go.Proofs.YtccjflioaajgiaaDoor
open Go Go.RowKit Pk Rl
set_option maxRecDepth 20000

theorem foldl_mem (F G : Int → List Nd → Int) (ps : List (List Nd)) (h : ∀ m, ∀ p ∈ ps, F m p = G m p) (m : Int) : ps.foldl F m = ps.foldl G m := by
  induction ps generalizing m with
  | nil => rfl
  | cons p ps ih => rw [List.foldl_cons, List.foldl_cons, h m p (by simp), ih (fun m q hq => h m q (by simp [hq]))]
theorem dpt_fuel (k : Nat) (l : List Nd) (h : l.length < k) : dpt (k + 1) l = dpt k l := by
  induction k generalizing l with
  | zero => omega
  | succ k ih =>
    show (pts l).foldl (fun m p => max m (1 + dpt (k + 1) p)) 0 = (pts l).foldl (fun m p => max m (1 + dpt k p)) 0
    exact foldl_mem _ _ _ (fun m p hp => by rw [ih p (by have := (pts_mem p hp).2.2.1; omega)]) _
theorem plT_fuel (k : Nat) (l : List Nd) (h : l.length < k) : plT (k + 1) l = plT k l := by
  induction k generalizing l with
  | zero => omega
  | succ k ih =>
    have e : (pts l).foldl (fun m p => wrap64 (m + plT (k + 1) p)) 0 = (pts l).foldl (fun m p => wrap64 (m + plT k p)) 0 :=
      foldl_mem _ _ _ (fun m p hp => by rw [ih p (by have := (pts_mem p hp).2.2.1; omega)]) _
    rw [plT, plT, e]
theorem all_mem (F G : List Nd → Bool) (ps : List (List Nd)) (h : ∀ p ∈ ps, F p = G p) : ps.all F = ps.all G := by
  induction ps with
  | nil => rfl
  | cons p ps ih => rw [List.all_cons, List.all_cons, h p (by simp), ih (fun q hq => h q (by simp [hq]))]
theorem fmT_fuel (k : Nat) (l : List Nd) (h : l.length < k) : fmT (k + 1) l = fmT k l := by
  induction k generalizing l with
  | zero => omega
  | succ k ih =>
    rw [fmT, fmT, all_mem (fmT (k + 1)) (fmT k) (pts l) (fun p hp => ih p (by have := (pts_mem p hp).2.2.1; omega))]
/- what Tree answers -/
def TR (k : Nat) (w : World) (n : Nat) (L : List Nd) (e : Ending) (w' : World) : Prop :=
  ∃ nd A m C, e = .returned (.tuple #[tOfT nd A m C, .bool (bld k L && decide ((frn L).length = n))]) ∧
    (bld k L = true → nd = L.headD nz ∧ m = (pts L).length ∧ Trs k w' (fun b => w.heap.size ≤ b ∧ b < w'.heap.size) A (pts L)) ∧ Below w.heap.size w w'
end Go.Proofs.YtccjflioaajgiaaDoor

/- The document's Depth, Places and formed of trees. -/
namespace Go.Proofs.YtccjflioaajgiaaDoor
open Go Go.RowKit Pk Rl
set_option maxRecDepth 20000

/- a row of trees of which a function tells f -/
def KD (G : World → Nd → Option Addr → Nat → Nat → List Nd → Prop) (w : World) (A : Option Addr) (ps : List (List Nd)) : Prop :=
  ∀ i, i < ps.length → ∃ b off n A' m' C', A = some ⟨b, off, none⟩ ∧ b < w.heap.size ∧ Atn w b (off + i * 12) n ∧ w.cell? ⟨b, off + i * 12 + 11, none⟩ = some (.slice A' m' C') ∧ ∀ W, Below w.heap.size w W → G W n A' m' C' (ps.getD i [])
theorem lpgetD_mem (R : List (List Nd)) (i : Nat) (h : i < R.length) : R.getD i [] ∈ R := by
  rw [List.getD_eq_getElem?_getD, List.getElem?_eq_getElem h]; exact List.getElem_mem _
theorem kd_two (nd : Nd) (q : Nat) : kd nd q = ((if nd.k = 1 then decide (q = 0) && decide (nd.lo = 0) && decide (nd.hi = 0) && !nd.y
    else if nd.k = 2 then decide (2 ≤ q) && decide (nd.lo = 0) && decide (nd.hi = 0) && (!nd.p.x && decide (nd.p.t = 0) && decide (nd.p.n = 0))
    else if nd.k = 3 then decide (2 ≤ q) && decide (nd.lo = 0) && decide (nd.hi = 0) && (!nd.p.x && decide (nd.p.t = 0) && decide (nd.p.n = 0)) && !nd.y
    else if nd.k = 4 then decide (q = 1) && decide (0 < nd.lo) && decide (nd.lo ≤ nd.hi) && decide (nd.hi < 9) && (!nd.p.x && decide (nd.p.t = 0) && decide (nd.p.n = 0)) else false) && (nd.y || (!nd.g.x && decide (nd.g.t = 0) && decide (nd.g.n = 0)))) := by
  unfold kd qno
  obtain ⟨nk, ⟨px, pt, pa, pn, pc, pL⟩, ny, ⟨gx, gt, ga, gn, gc, gL⟩, nlo, nhi, ns⟩ := nd
  simp only
  generalize (!px && decide (pt = 0) && decide (pn = 0)) = P
  generalize (!gx && decide (gt = 0) && decide (gn = 0)) = G
  by_cases k1 : nk = 1
  · simp only [if_pos k1]; cases ny <;> cases G <;> simp
  · simp only [if_neg k1]
    by_cases k2 : nk = 2
    · simp only [if_pos k2]; cases ny <;> cases G <;> cases P <;> simp
    · simp only [if_neg k2]
      by_cases k3 : nk = 3
      · simp only [if_pos k3]; cases ny <;> cases G <;> cases P <;> simp
      · simp only [if_neg k3]
        by_cases k4 : nk = 4
        · simp only [if_pos k4]; cases ny <;> cases G <;> cases P <;> simp; all_goals (rw [Bool.eq_iff_iff]; simp; omega)
        · simp only [if_neg k4]; rfl
end Go.Proofs.YtccjflioaajgiaaDoor

/- The document's Places of trees. -/
namespace Go.Proofs.YtccjflioaajgiaaDoor
open Go Go.RowKit Pk Rl
set_option maxRecDepth 20000

theorem hd_mem {l : List Nd} {P : Nd → Prop} (h : ∀ v ∈ l, P v) (hz : P nz) : P (l.headD nz) := by
  rcases l with _ | ⟨a, r⟩
  · exact hz
  · exact h a (by simp)
end Go.Proofs.YtccjflioaajgiaaDoor

/- The document's May of a pattern. -/
namespace Go.Proofs.YtccjflioaajgiaaDoor
open Go Go.RowKit Pk Rl
set_option maxRecDepth 20000

theorem mp_two (L : List Nd) (win : Int) (n : Nat) (hn : L.length = n) (h0 : 0 ≤ win) :
    mp L win = if 32 < n then 12 else if (bld 33 L && decide ((frn L).length = n)) = false ∨ fmT 33 L = false then 2 else if L.any bad = true then 1 else if 8 < dpt 33 L then 16 else if win = 0 ∨ 1048576 < win then 5 else if 32 < plT 33 L then 4 else 0 := by
  have hq := frn_len L
  unfold mp
  rw [hn] at hq ⊢
  by_cases c1 : 32 < n
  · rw [if_pos c1, if_pos c1]
  rw [if_neg c1, if_neg c1, fmd_eq]
  by_cases c2 : (frn L).length = n
  · by_cases c3 : bld 33 L = true
    · by_cases c4 : fmT 33 L = true
      · rw [if_neg (show ¬((frn L).length < n ∨ (bld 33 L && fmT 33 L) = false) by rw [c2, c3, c4]; simp), if_neg (show ¬((bld 33 L && decide ((frn L).length = n)) = false ∨ fmT 33 L = false) by rw [c2, c3, c4]; simp), plT_eq 33 L c4]
        have e : (win < 1 ∨ 1048576 < win) ↔ (win = 0 ∨ 1048576 < win) := by omega
        simp only [e]
      · have c4' : fmT 33 L = false := by simpa using c4
        rw [if_pos (by rw [c4']; simp), if_pos (by rw [c4']; simp)]
    · have c3' : bld 33 L = false := by simpa using c3
      rw [if_pos (by rw [c3']; simp), if_pos (by rw [c3']; simp)]
  · rw [if_pos (.inl (by omega)), if_pos (.inl (by simp [c2]))]
end Go.Proofs.YtccjflioaajgiaaDoor
