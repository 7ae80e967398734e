/- Contracts, joined: TrA, DnB. -/
import Derived.Test.YtpnllbojifnopaaGreatDoorMD
import Derived.Test.YtpnllbojifnopaaGreatDoorME
import Derived.Test.YtpnllbojifnopaaGreatDoorDnA
/- Patterns: nodes in memory, rows of them; what a pattern is, by lists. -/
namespace Go.Proofs.YtpnllbojifnopaaGreatDoor
open Go Go.RowKit Pk Rl
set_option maxRecDepth 20000

/- a question, and a node, by what stands in memory -/
structure Qu where
  x : Bool
  t : Int
  a : Option Addr
  n : Nat
  c : Nat
  L : List TT
abbrev qz : Qu := ⟨false, 0, none, 0, 0, []⟩
structure Nd where
  k : Int
  p : Qu
  y : Bool
  g : Qu
  lo : Int
  hi : Int
  s : Int
abbrev nz : Nd := ⟨0, qz, false, qz, 0, 0, 0⟩
abbrev qv (q : Qu) : Value := pv q.x q.t q.a q.n q.c
def ncl (n : Nd) : List Value := [.int .u8 n.k, .bool n.p.x, .int .u8 n.p.t, .slice n.p.a n.p.n n.p.c, .bool n.y, .bool n.g.x, .int .u8 n.g.t, .slice n.g.a n.g.n n.g.c, .int .u8 n.lo, .int .u8 n.hi, .int .i64 n.s]
abbrev nOf (n : Nd) : Value := .agg #[.int .u8 n.k, .bool n.p.x, .int .u8 n.p.t, .slice n.p.a n.p.n n.p.c, .bool n.y, .bool n.g.x, .int .u8 n.g.t, .slice n.g.a n.g.n n.g.c, .int .u8 n.lo, .int .u8 n.hi, .int .i64 n.s]
abbrev nobj (n : Nd) : Obj := .cells #[.int .u8 n.k, .bool n.p.x, .int .u8 n.p.t, .slice n.p.a n.p.n n.p.c, .bool n.y, .bool n.g.x, .int .u8 n.g.t, .slice n.g.a n.g.n n.g.c, .int .u8 n.lo, .int .u8 n.hi, .int .i64 n.s] 57
def Atn (w : World) (b o : Nat) (n : Nd) : Prop :=
  w.cell? ⟨b, o, none⟩ = some (.int .u8 n.k) ∧ w.cell? ⟨b, o + 1, none⟩ = some (.bool n.p.x) ∧ w.cell? ⟨b, o + 2, none⟩ = some (.int .u8 n.p.t) ∧ w.cell? ⟨b, o + 3, none⟩ = some (.slice n.p.a n.p.n n.p.c) ∧
  w.cell? ⟨b, o + 4, none⟩ = some (.bool n.y) ∧ w.cell? ⟨b, o + 5, none⟩ = some (.bool n.g.x) ∧ w.cell? ⟨b, o + 6, none⟩ = some (.int .u8 n.g.t) ∧ w.cell? ⟨b, o + 7, none⟩ = some (.slice n.g.a n.g.n n.g.c) ∧
  w.cell? ⟨b, o + 8, none⟩ = some (.int .u8 n.lo) ∧ w.cell? ⟨b, o + 9, none⟩ = some (.int .u8 n.hi) ∧ w.cell? ⟨b, o + 10, none⟩ = some (.int .i64 n.s)
theorem Atn.same {w w' : World} {b o : Nat} {n : Nd} (h : Atn w b o n) (e : ∀ j, w'.cell? ⟨b, j, none⟩ = w.cell? ⟨b, j, none⟩) : Atn w' b o n := by
  obtain ⟨h0, h1, h2, h3, h4, h5, h6, h7, h8, h9, h10⟩ := h
  refine ⟨?_, ?_, ?_, ?_, ?_, ?_, ?_, ?_, ?_, ?_, ?_⟩ <;> (rw [e]; assumption)
theorem Atn.lt {w : World} {b o : Nat} {n : Nd} (h : Atn w b o n) : b < w.heap.size := World.block_lt_of_cell? _ _ h.1
theorem Atn.below {B : Nat} {w w' : World} {b o : Nat} {n : Nd} (h : Atn w b o n) (hb : Below B w w') (hB : b < B) : Atn w' b o n := h.same fun j => hb.cell (p := ⟨b, j, none⟩) hB
def Nds (w : World) (a : Option Addr) (L : List Nd) : Prop := ∀ i, i < L.length → ∃ b off, a = some ⟨b, off, none⟩ ∧ Atn w b (off + i * 11) (L.getD i nz)
theorem Nds.below {w w' : World} {a : Option Addr} {L : List Nd} (h : Nds w a L) (hb : Below w.heap.size w w') : Nds w' a L := fun i hi => by
  obtain ⟨b, off, e, h⟩ := h i hi
  exact ⟨b, off, e, h.below hb h.lt⟩
theorem Nds.nil (w : World) (a : Option Addr) : Nds w a [] := fun i hi => absurd hi (by simp)
theorem getD_take (L : List Nd) (k i : Nat) (h : i < k) : (L.take k).getD i nz = L.getD i nz := by
  rw [List.getD_eq_getElem?_getD, List.getD_eq_getElem?_getD, List.getElem?_take_of_lt h]
theorem getD_drop (L : List Nd) (k i : Nat) : (L.drop k).getD i nz = L.getD (k + i) nz := by
  rw [List.getD_eq_getElem?_getD, List.getD_eq_getElem?_getD, List.getElem?_drop]
theorem Nds.take {w : World} {a : Option Addr} {L : List Nd} (h : Nds w a L) (k : Nat) : Nds w a (L.take k) := fun i hi => by
  rw [List.length_take] at hi
  obtain ⟨b, off, e, h⟩ := h i (by omega)
  exact ⟨b, off, e, by rw [getD_take L k i (by omega)]; exact h⟩
theorem Nds.drop {w : World} {b off : Nat} {L : List Nd} (h : Nds w (some ⟨b, off, none⟩) L) (k : Nat) : Nds w (some ⟨b, off + k * 11, none⟩) (L.drop k) := fun i hi => by
  rw [List.length_drop] at hi
  obtain ⟨b', off', e, h⟩ := h (k + i) (by omega)
  injection e with e
  injection e with e1 e2
  subst e1 e2
  exact ⟨b, off + k * 11, rfl, by rw [getD_drop, show off + k * 11 + i * 11 = off + (k + i) * 11 by omega]; exact h⟩
/- its questions' tests are there, and are as a machine can hold them -/
structure Qok (w : World) (q : Qu) : Prop where
  len : q.L.length = q.n
  few : q.n ≤ 10
  row : Tsts w q.a q.L
  ok : ∀ v ∈ q.L, Okt v
structure Nok (w : World) (n : Nd) : Prop where
  p : Qok w n.p
  g : Qok w n.g
  k0 : 0 ≤ n.k
  k1 : n.k < 256
  l0 : 0 ≤ n.lo
  l1 : n.lo < 256
  h0 : 0 ≤ n.hi
  h1 : n.hi < 256
  s0 : -9223372036854775808 ≤ n.s
  s1 : n.s ≤ 9223372036854775807
theorem Qok.below {w w' : World} {q : Qu} (h : Qok w q) (hb : Below w.heap.size w w') : Qok w' q := ⟨h.len, h.few, h.row.below hb, h.ok⟩
theorem Nok.below {w w' : World} {n : Nd} (h : Nok w n) (hb : Below w.heap.size w w') : Nok w' n := ⟨h.p.below hb, h.g.below hb, h.k0, h.k1, h.l0, h.l1, h.h0, h.h1, h.s0, h.s1⟩
theorem Qok.zero (w : World) : Qok w qz := ⟨rfl, by decide, Tsts.nil _ _, by simp⟩
/- a slice that holds a row of nodes -/
structure Pt (w : World) (a : Option Addr) (n c : Nat) (L : List Nd) : Prop where
  len : L.length = n
  few : n ≤ 1000
  cap : n ≤ c
  row : Nds w a L
  ok : ∀ v ∈ L, Nok w v
theorem Pt.below {w w' : World} {a : Option Addr} {n c : Nat} {L : List Nd} (h : Pt w a n c L) (hb : Below w.heap.size w w') : Pt w' a n c L := ⟨h.len, h.few, h.cap, h.row.below hb, fun v hv => (h.ok v hv).below hb⟩
theorem Pt.nil (w : World) (a : Option Addr) (c : Nat) : Pt w a 0 c [] := ⟨rfl, by omega, by omega, Nds.nil _ _, by simp⟩
theorem ndrop_cons (L : List Nd) (k : Nat) (h : k < L.length) : L.drop k = L.getD k nz :: L.drop (k + 1) := by
  rw [List.drop_eq_getElem_cons h, List.getD_eq_getElem?_getD, List.getElem?_eq_getElem h]; rfl
theorem ngetD_mem (L : List Nd) (k : Nat) (h : k < L.length) : L.getD k nz ∈ L := by
  rw [List.getD_eq_getElem?_getD, List.getElem?_eq_getElem h]; exact List.getElem_mem _

/- the pattern of a row's first node: no node, if it isn't there as a whole -/
def frn : List Nd → List Nd
  | [] => []
  | n :: r => if n.s < 0 ∨ (r.length : Int) < n.s then [] else n :: r.take n.s.toNat
theorem frn_nil : frn [] = [] := rfl
theorem frn_cons (n : Nd) (r : List Nd) : frn (n :: r) = if n.s < 0 ∨ (r.length : Int) < n.s then [] else n :: r.take n.s.toNat := rfl
theorem frn_len (l : List Nd) : (frn l).length ≤ l.length := by
  cases l with
  | nil => simp [frn]
  | cons n r =>
    rw [frn_cons]
    split
    · simp
    · rw [List.length_cons, List.length_cons, List.length_take]; omega
theorem frn_take (l : List Nd) (h : frn l ≠ []) : frn l = l.take (frn l).length := by
  cases l with
  | nil => exact absurd rfl h
  | cons n r =>
    rw [frn_cons] at h ⊢
    by_cases hc : n.s < 0 ∨ (r.length : Int) < n.s
    · rw [if_pos hc] at h; exact absurd rfl h
    · rw [if_neg hc, List.length_cons, List.take_succ_cons, List.length_take, Nat.min_eq_left (by omega)]
theorem frn_idem (l : List Nd) : frn (frn l) = frn l := by
  cases l with
  | nil => rfl
  | cons n r =>
    by_cases hc : n.s < 0 ∨ (r.length : Int) < n.s
    · rw [frn_cons, if_pos hc]; rfl
    · have hl : (r.take n.s.toNat).length = n.s.toNat := by rw [List.length_take, Nat.min_eq_left (by omega)]
      rw [frn_cons, if_neg hc, frn_cons, if_neg (by rw [hl]; omega), List.take_of_length_le (by rw [hl]; omega)]
/- the parts that stand in a row one behind the other -/
theorem drop_lt (l : List Nd) (h : l ≠ []) (h2 : ¬ frn l = []) : (l.drop (frn l).length).length < l.length := by
  rw [List.length_drop]
  have h0 : (frn l).length ≠ 0 := fun e => h2 (List.eq_nil_of_length_eq_zero e)
  have h1 : l.length ≠ 0 := fun e => h (List.eq_nil_of_length_eq_zero e)
  omega
def spl (l : List Nd) : Option (List (List Nd)) :=
  if _h : l = [] then some [] else if _h2 : frn l = [] then none else (spl (l.drop (frn l).length)).map (frn l :: ·)
  termination_by l.length
  decreasing_by exact drop_lt l _h _h2
theorem spl_nil : spl [] = some [] := by rw [spl]; simp
theorem spl_cons (l : List Nd) (h : l ≠ []) : spl l = if frn l = [] then none else (spl (l.drop (frn l).length)).map (frn l :: ·) := by
  rw [spl, dif_neg h]; simp only [dite_eq_ite]
theorem spl_mem {l : List Nd} {ps : List (List Nd)} (h : spl l = some ps) : ∀ p ∈ ps, p ≠ [] ∧ frn p = p ∧ p.length ≤ l.length ∧ ∀ v ∈ p, v ∈ l := by
  generalize hk : l.length = k
  induction k using Nat.strongRecOn generalizing l ps with
  | _ k ih =>
    by_cases hl : l = []
    · subst hl; rw [spl_nil] at h; injection h with h; subst h; simp
    · rw [spl_cons l hl] at h
      by_cases hf : frn l = []
      · rw [if_pos hf] at h; cases h
      · rw [if_neg hf] at h
        obtain ⟨qs, hq, rfl⟩ := Option.map_eq_some_iff.1 h
        have h0 : (frn l).length ≠ 0 := fun e => hf (List.eq_nil_of_length_eq_zero e)
        have hlt : (l.drop (frn l).length).length < k := by
          rw [List.length_drop]
          have : l.length ≠ 0 := fun e => hl (List.eq_nil_of_length_eq_zero e)
          omega
        intro p hp
        rcases List.mem_cons.1 hp with rfl | hp
        · refine ⟨hf, frn_idem l, by have := frn_len l; omega, fun v hv => ?_⟩
          rw [frn_take l hf] at hv
          exact List.mem_of_mem_take hv
        · obtain ⟨a1, a2, a3, a4⟩ := ih _ hlt hq rfl p hp
          exact ⟨a1, a2, by omega, fun v hv => List.mem_of_mem_drop (a4 v hv)⟩
def pts (l : List Nd) : List (List Nd) := (spl (frn l).tail).getD []
theorem pts_mem {l : List Nd} : ∀ p ∈ pts l, p ≠ [] ∧ frn p = p ∧ p.length < l.length ∧ ∀ v ∈ p, v ∈ l := by
  intro p hp
  unfold pts at hp
  rcases hs : spl (frn l).tail with _ | ps
  · rw [hs] at hp; simp at hp
  · rw [hs] at hp
    obtain ⟨a1, a2, a3, a4⟩ := spl_mem hs p hp
    have h0 : frn l ≠ [] := fun e => by
      rw [e, List.tail_nil, spl_nil] at hs
      injection hs with hs
      subst hs
      simp at hp
    have h1 := frn_len l
    have h2 : (frn l).length ≠ 0 := fun e => h0 (List.eq_nil_of_length_eq_zero e)
    rw [List.length_tail] at a3
    refine ⟨a1, a2, by omega, fun v hv => ?_⟩
    have := List.mem_of_mem_tail (a4 v hv)
    rw [frn_take l h0] at this
    exact List.mem_of_mem_take this
/- whether a row's parts end where their Sizes say, and something holds of each -/
def ofp (F : List Nd → Bool) (l : List Nd) : Bool :=
  match frn l with
  | [] => false
  | _ :: r => match spl r with
    | none => false
    | some ps => ps.all F
/- a question that has nothing; a node that has what its kind names, with so many parts -/
def qno (q : Qu) : Bool := !q.x && decide (q.t = 0) && decide (q.n = 0)
def kd (n : Nd) (m : Nat) : Bool :=
  if n.k = 1 then decide (m = 0) && !n.y && qno n.g && decide (n.lo = 0) && decide (n.hi = 0)
  else if n.k = 2 then decide (2 ≤ m) && qno n.p && (n.y || qno n.g) && decide (n.lo = 0) && decide (n.hi = 0)
  else if n.k = 3 then decide (2 ≤ m) && qno n.p && !n.y && qno n.g && decide (n.lo = 0) && decide (n.hi = 0)
  else if n.k = 4 then decide (m = 1) && qno n.p && (n.y || qno n.g) && decide (1 ≤ n.lo) && decide (n.lo ≤ n.hi) && decide (n.hi ≤ 8)
  else false
/- formed: so deep -/
def fmd : Nat → List Nd → Bool
  | 0, _ => false
  | k + 1, l => ofp (fmd k) l && kd (l.headD nz) (pts l).length
def dpt : Nat → List Nd → Int
  | 0, _ => 0
  | k + 1, l => (pts l).foldl (fun m p => max m (1 + dpt k p)) 0
def plc : Nat → List Nd → Int
  | 0, _ => 0
  | k + 1, l => if (l.headD nz).k = 1 then 1 else
    let m := (pts l).foldl (fun m p => wrap64 (m + plc k p)) 0
    if (l.headD nz).k = 4 then wrap64 (m * (l.headD nz).hi) else m
theorem dpt_pos (k : Nat) (l : List Nd) : 0 ≤ dpt k l ∧ dpt k l ≤ k := by
  induction k generalizing l with
  | zero => simp [dpt]
  | succ k ih =>
    unfold dpt
    have key : ∀ (ps : List (List Nd)) (m : Int), 0 ≤ m → m ≤ (k + 1 : Nat) → 0 ≤ ps.foldl (fun m p => max m (1 + dpt k p)) m ∧ ps.foldl (fun m p => max m (1 + dpt k p)) m ≤ (k + 1 : Nat) := by
      intro ps
      induction ps with
      | nil => intro m h0 h1; exact ⟨h0, h1⟩
      | cons p ps ih2 =>
        intro m h0 h1
        rw [List.foldl_cons]
        have := ih p
        exact ih2 _ (by omega) (by omega)
    exact key _ 0 (by omega) (by omega)
end Go.Proofs.YtpnllbojifnopaaGreatDoor

/- What a pattern's nodes mean, by lists; where the parts of a node begin. No program. -/
namespace Go.Proofs.YtpnllbojifnopaaGreatDoor
open Go Go.RowKit Pk Rl
set_option maxRecDepth 20000

abbrev Hq := Qu → Nat → Bool
def gd (h : Hq) (n : Nd) : Nat → Bool := fun k => n.y && h n.g k
def reps (n : Nat) (rs : List Rl2) : List Rl2 := (List.replicate n rs).flatten
/- from where to where the pattern of a row's first node happens, so deep -/
def rel (h : Hq) (N : Nat) : Nat → List Nd → Rl2
  | 0, _ => fun _ _ => false
  | k + 1, l =>
    if (l.headD nz).k = 2 then chn N (gp (gd h (l.headD nz))) ((pts l).map (rel h N k))
    else if (l.headD nz).k = 3 then altr ((pts l).map (rel h N k))
    else if (l.headD nz).k = 4 then anyc N (gd h (l.headD nz)) (reps (l.headD nz).hi.toNat ((pts l).map (rel h N k))) (l.headD nz).lo.toNat
    else fun i j => decide (i = j) && decide (i < N) && h (l.headD nz).p i
theorem rel_succ (h : Hq) (N k : Nat) (l : List Nd) : rel h N (k + 1) l =
    if (l.headD nz).k = 2 then chn N (gp (gd h (l.headD nz))) ((pts l).map (rel h N k))
    else if (l.headD nz).k = 3 then altr ((pts l).map (rel h N k))
    else if (l.headD nz).k = 4 then anyc N (gd h (l.headD nz)) (reps (l.headD nz).hi.toNat ((pts l).map (rel h N k))) (l.headD nz).lo.toNat
    else fun i j => decide (i = j) && decide (i < N) && h (l.headD nz).p i := rfl
theorem reps_mem {n : Nat} {rs : List Rl2} : ∀ r ∈ reps n rs, r ∈ rs := by
  intro r hr
  obtain ⟨l, hl, h⟩ := List.mem_flatten.1 hr
  rw [List.eq_of_mem_replicate hl] at h
  exact h
theorem rel_fwd (h : Hq) (N k : Nat) (l : List Nd) : Fwd N (rel h N k l) := by
  induction k generalizing l with
  | zero => intro i j hc; cases hc
  | succ k ih =>
    have hm : ∀ r ∈ (pts l).map (rel h N k), Fwd N r := fun r hr => by
      obtain ⟨p, _, rfl⟩ := List.mem_map.1 hr
      exact ih p
    rw [rel_succ]
    split
    · exact Fwd.chn _ hm
    split
    · exact Fwd.altr hm
    split
    · exact Fwd.anyc fun r hr => hm r (reps_mem r hr)
    · intro i j hc
      rw [Bool.and_eq_true, Bool.and_eq_true, decide_eq_true_iff, decide_eq_true_iff] at hc
      omega
theorem rel_fuel (h : Hq) (N k : Nat) (l : List Nd) (hl : l.length < k) : rel h N (k + 1) l = rel h N k l := by
  induction k generalizing l with
  | zero => omega
  | succ k ih =>
    have e : (pts l).map (rel h N (k + 1)) = (pts l).map (rel h N k) := List.map_congr_left fun p hp => ih p (by have := (pts_mem p hp).2.2.1; omega)
    rw [rel_succ, rel_succ h N k, e]
theorem pts_frn_b (l : List Nd) : pts (frn l) = pts l := by unfold pts; rw [frn_idem]
theorem head_frn (l : List Nd) (h : frn l ≠ []) : (frn l).headD nz = l.headD nz := by
  cases l with
  | nil => exact absurd rfl h
  | cons n r =>
    rw [frn_cons] at h ⊢
    split
    · rename_i c; rw [if_pos c] at h; exact absurd rfl h
    · rfl
theorem rel_frn (h : Hq) (N k : Nat) (l : List Nd) (hl : frn l ≠ []) : rel h N k (frn l) = rel h N k l := by
  cases k with
  | zero => rfl
  | succ k => rw [rel_succ, rel_succ h N k l, pts_frn_b, head_frn l hl]
/- where parts begin, one behind the other -/
def stp (o : Nat) : List (List Nd) → List Nat
  | [] => []
  | p :: ps => o :: stp (o + p.length) ps
theorem stp_len (o : Nat) (ps : List (List Nd)) : (stp o ps).length = ps.length := by
  induction ps generalizing o with
  | nil => rfl
  | cons p ps ih => simp [stp, ih]
theorem stp_snoc (o : Nat) (ps : List (List Nd)) (p : List Nd) : stp o (ps ++ [p]) = stp o ps ++ [o + (ps.map List.length).sum] := by
  induction ps generalizing o with
  | nil => simp [stp]
  | cons q ps ih => simp only [stp, List.cons_append, ih, List.map_cons, List.sum_cons]; rw [Nat.add_assoc]
/- a beginning's front is the whole's -/
theorem frn_pre (l : List Nd) (m : Nat) (h : frn (l.take m) ≠ []) : frn l = frn (l.take m) := by
  cases l with
  | nil => simp [frn] at h
  | cons n r =>
    cases m with
    | zero => simp [frn] at h
    | succ m =>
      rw [List.take_succ_cons, frn_cons] at h ⊢
      rw [frn_cons]
      by_cases c : n.s < 0 ∨ ((r.take m).length : Int) < n.s
      · rw [if_pos c] at h; exact absurd rfl h
      · have hm : (r.take m).length ≤ m := by rw [List.length_take]; exact Nat.min_le_left _ _
        have hr : (r.take m).length ≤ r.length := by rw [List.length_take]; exact Nat.min_le_right _ _
        rw [if_neg c, if_neg (by omega), List.take_take, Nat.min_eq_left (by omega)]
theorem stp_spl (L : List Nd) (o m : Nat) (ps : List (List Nd)) (h : spl ((L.drop o).take m) = some ps) :
    (∀ i, i < ps.length → frn (L.drop ((stp o ps).getD i 0)) = ps.getD i [] ∧ ps.getD i [] ≠ [] ∧ o ≤ (stp o ps).getD i 0 ∧ (stp o ps).getD i 0 + (ps.getD i []).length ≤ L.length) ∧ o + (ps.map List.length).sum ≤ max o L.length := by
  generalize hk : ((L.drop o).take m).length = k
  induction k using Nat.strongRecOn generalizing o m ps with
  | _ k ih =>
    by_cases hl : (L.drop o).take m = []
    · rw [hl, spl_nil] at h
      injection h with h
      subst h
      exact ⟨fun i hi => absurd hi (by simp), by simp; omega⟩
    · rw [spl_cons _ hl] at h
      by_cases hf : frn ((L.drop o).take m) = []
      · rw [if_pos hf] at h; cases h
      · rw [if_neg hf] at h
        obtain ⟨qs, hq, rfl⟩ := Option.map_eq_some_iff.1 h
        have hpre := frn_pre (L.drop o) m hf
        have h0 : (frn ((L.drop o).take m)).length ≠ 0 := fun e => hf (List.eq_nil_of_length_eq_zero e)
        have hle := frn_len ((L.drop o).take m)
        have hlen : ((L.drop o).take m).length = min m (L.length - o) := by rw [List.length_take, List.length_drop]
        generalize hfr : frn ((L.drop o).take m) = f at *
        rw [List.drop_take, List.drop_drop] at hq
        have hk2 : ((L.drop (o + f.length)).take (m - f.length)).length < k := by rw [List.length_take, List.length_drop]; omega
        obtain ⟨a1, a2⟩ := ih _ hk2 _ _ _ hq rfl
        refine ⟨fun i hi => ?_, by simp only [List.map_cons, List.sum_cons]; omega⟩
        rcases i with _ | i
        · simp only [stp, List.getD_cons_zero]
          exact ⟨hpre, hf, Nat.le_refl _, by omega⟩
        · simp only [stp, List.getD_cons_succ]
          obtain ⟨b1, b2, b3, b4⟩ := a1 i (by simpa using hi)
          exact ⟨b1, b2, by omega, b4⟩
/- of node n: at which nodes its parts begin -/
def pos (L : List Nd) (n : Nat) : List Nat := stp (n + 1) (pts (L.drop n))
theorem pos_spec (L : List Nd) (n : Nat) (i : Nat) (hi : i < (pts (L.drop n)).length) :
    frn (L.drop ((pos L n).getD i 0)) = (pts (L.drop n)).getD i [] ∧ (pts (L.drop n)).getD i [] ≠ [] ∧ n < (pos L n).getD i 0 ∧ (pos L n).getD i 0 < L.length := by
  unfold pos
  have hp : pts (L.drop n) = (spl (frn (L.drop n)).tail).getD [] := rfl
  rcases hs : spl (frn (L.drop n)).tail with _ | ps
  · rw [hp, hs] at hi; simp at hi
  · rw [hs] at hp
    simp only [Option.getD_some] at hp
    rw [hp] at hi ⊢
    have hf : frn (L.drop n) ≠ [] := fun e => by
      rw [e, List.tail_nil, spl_nil] at hs
      injection hs with hs
      subst hs
      simp at hi
    have e := frn_take (L.drop n) hf
    generalize (frn (L.drop n)).length = m at e
    rw [e] at hs
    have et : ((L.drop n).take m).tail = (L.drop (n + 1)).take (m - 1) := by
      rw [← List.drop_one, List.drop_take, List.drop_drop]
    rw [et] at hs
    obtain ⟨a, _⟩ := stp_spl L (n + 1) (m - 1) ps hs
    obtain ⟨b1, b2, b3, b4⟩ := a i hi
    have b5 : (ps.getD i []).length ≠ 0 := fun e => b2 (List.eq_nil_of_length_eq_zero e)
    exact ⟨b1, b2, by omega, by omega⟩
/- what the search finds of a node, with enough fuel -/
def rn (h : Hq) (N : Nat) (L : List Nd) (n : Nat) : Rl2 := rel h N 60 (L.drop n)
theorem rn_fwd (h : Hq) (N : Nat) (L : List Nd) (n : Nat) : Fwd N (rn h N L n) := rel_fwd _ _ _ _
theorem rn_parts (h : Hq) (N : Nat) (L : List Nd) (hL : L.length ≤ 50) (n : Nat) : (pts (L.drop n)).map (rel h N 59) = (pos L n).map (rn h N L) := by
  have hl : (pos L n).length = (pts (L.drop n)).length := stp_len _ _
  refine List.ext_getElem (by simp [hl]) fun i h1 h2 => ?_
  rw [List.getElem_map, List.getElem_map]
  rw [List.length_map] at h1 h2
  obtain ⟨a, b, c, d⟩ := pos_spec L n i h1
  have e1 : (pos L n).getD i 0 = (pos L n)[i] := by rw [List.getD_eq_getElem?_getD, List.getElem?_eq_getElem h2]; rfl
  have e2 : (pts (L.drop n)).getD i [] = (pts (L.drop n))[i] := by rw [List.getD_eq_getElem?_getD, List.getElem?_eq_getElem h1]; rfl
  rw [e1] at a c d
  rw [e2] at a b
  unfold rn
  have hlen : (L.drop (pos L n)[i]).length < 59 := by rw [List.length_drop]; omega
  rw [rel_fuel _ _ _ _ hlen, ← a, rel_frn]
  rw [a]; exact b
theorem rn_eq (h : Hq) (N : Nat) (L : List Nd) (hL : L.length ≤ 50) (n : Nat) (hn : n < L.length) : rn h N L n =
    if (L.getD n nz).k = 2 then chn N (gp (gd h (L.getD n nz))) ((pos L n).map (rn h N L))
    else if (L.getD n nz).k = 3 then altr ((pos L n).map (rn h N L))
    else if (L.getD n nz).k = 4 then anyc N (gd h (L.getD n nz)) (reps (L.getD n nz).hi.toNat ((pos L n).map (rn h N L))) (L.getD n nz).lo.toNat
    else fun i j => decide (i = j) && decide (i < N) && h (L.getD n nz).p i := by
  have e : (L.drop n).headD nz = L.getD n nz := by rw [ndrop_cons L n hn]; rfl
  unfold rn
  rw [rel_succ, e, rn_parts h N L hL n]
  rfl
theorem anyc_all (N : Nat) (g : Nat → Bool) (rs : List Rl2) : anyc N g rs rs.length = chn N (gp g) rs := by
  funext i j
  unfold anyc
  rw [Bool.eq_iff_iff, List.any_eq_true]
  constructor
  · rintro ⟨k, hk, h⟩
    rw [Bool.and_eq_true, decide_eq_true_iff] at h
    have hk := List.mem_range.1 hk
    rw [List.take_of_length_le (by omega)] at h
    exact h.2
  · intro h
    cases rs with
    | nil => cases h
    | cons r rs => exact ⟨rs.length, List.mem_range.2 (by simp), by simp [h]⟩
/- what the search answers: of node n, from i, up to the window -/
def ens (h : Hq) (N : Nat) (L : List Nd) (ov : Nat → Nat) (n i : Nat) : List Nat := rng (ov i) (rn h N L n i)
theorem ens_mem {h : Hq} {N : Nat} {L : List Nd} {ov : Nat → Nat} {n i j : Nat} (hj : j ∈ ens h N L ov n i) : i ≤ j ∧ j < ov i := by
  obtain ⟨h1, h2⟩ := mem_rng.1 hj
  exact ⟨(rn_fwd h N L n i j h2).1, h1⟩
end Go.Proofs.YtpnllbojifnopaaGreatDoor
