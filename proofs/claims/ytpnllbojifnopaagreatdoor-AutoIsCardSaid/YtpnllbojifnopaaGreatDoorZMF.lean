/- Contracts, joined: TrA, DnB. -/
import Derived.Test.YtpnllbojifnopaaGreatDoorZMD
import Derived.Test.YtpnllbojifnopaaGreatDoorZME
import Derived.Test.YtpnllbojifnopaaGreatDoorZDnA
namespace Go.Proofs.YtpnllbojifnopaaGreatDoor
open Go Go.RowKit Pk Rl
set_option maxRecDepth 20000
structure Qu where
  x : Bool
  t : Int
  a : Option Addr
  n : Nat
  c : Nat
  L : List TT
abbrev qz : Qu := ⟨false, 0, none, 0, 0, []⟩
structure Nd where
  k : Int
  p : Qu
  y : Bool
  g : Qu
  lo : Int
  hi : Int
  s : Int
abbrev nz : Nd := ⟨0, qz, false, qz, 0, 0, 0⟩
abbrev qv (q : Qu) : Value := pv q.x q.t q.a q.n q.c
def ncl (n : Nd) : List Value := [.int .u8 n.k, .bool n.p.x, .int .u8 n.p.t, .slice n.p.a n.p.n n.p.c, .bool n.y, .bool n.g.x, .int .u8 n.g.t, .slice n.g.a n.g.n n.g.c, .int .u8 n.lo, .int .u8 n.hi, .int .i64 n.s]
abbrev nOf (n : Nd) : Value := .agg #[.int .u8 n.k, .bool n.p.x, .int .u8 n.p.t, .slice n.p.a n.p.n n.p.c, .bool n.y, .bool n.g.x, .int .u8 n.g.t, .slice n.g.a n.g.n n.g.c, .int .u8 n.lo, .int .u8 n.hi, .int .i64 n.s]
abbrev nobj (n : Nd) : Obj := .cells #[.int .u8 n.k, .bool n.p.x, .int .u8 n.p.t, .slice n.p.a n.p.n n.p.c, .bool n.y, .bool n.g.x, .int .u8 n.g.t, .slice n.g.a n.g.n n.g.c, .int .u8 n.lo, .int .u8 n.hi, .int .i64 n.s] 57
def Atn (w : World) (b o : Nat) (n : Nd) : Prop :=
  w.cell? ⟨b, o, none⟩ = some (.int .u8 n.k) ∧ w.cell? ⟨b, o + 1, none⟩ = some (.bool n.p.x) ∧ w.cell? ⟨b, o + 2, none⟩ = some (.int .u8 n.p.t) ∧ w.cell? ⟨b, o + 3, none⟩ = some (.slice n.p.a n.p.n n.p.c) ∧
  w.cell? ⟨b, o + 4, none⟩ = some (.bool n.y) ∧ w.cell? ⟨b, o + 5, none⟩ = some (.bool n.g.x) ∧ w.cell? ⟨b, o + 6, none⟩ = some (.int .u8 n.g.t) ∧ w.cell? ⟨b, o + 7, none⟩ = some (.slice n.g.a n.g.n n.g.c) ∧
  w.cell? ⟨b, o + 8, none⟩ = some (.int .u8 n.lo) ∧ w.cell? ⟨b, o + 9, none⟩ = some (.int .u8 n.hi) ∧ w.cell? ⟨b, o + 10, none⟩ = some (.int .i64 n.s)
theorem Atn.same {w w' : World} {b o : Nat} {n : Nd} (h : Atn w b o n) (e : ∀ j, w'.cell? ⟨b, j, none⟩ = w.cell? ⟨b, j, none⟩) : Atn w' b o n := by
  obtain ⟨h0, h1, h2, h3, h4, h5, h6, h7, h8, h9, h10⟩ := h
  refine ⟨?_, ?_, ?_, ?_, ?_, ?_, ?_, ?_, ?_, ?_, ?_⟩ <;> (rw [e]; assumption)
theorem Atn.lt {w : World} {b o : Nat} {n : Nd} (h : Atn w b o n) : b < w.heap.size := World.block_lt_of_cell? _ _ h.1
theorem Atn.below {B : Nat} {w w' : World} {b o : Nat} {n : Nd} (h : Atn w b o n) (hb : Below B w w') (hB : b < B) : Atn w' b o n := h.same fun j => hb.cell (p := ⟨b, j, none⟩) hB
def Nds (w : World) (a : Option Addr) (L : List Nd) : Prop := ∀ i, i < L.length → ∃ b off, a = some ⟨b, off, none⟩ ∧ Atn w b (off + i * 11) (L.getD i nz)
theorem Nds.below {w w' : World} {a : Option Addr} {L : List Nd} (h : Nds w a L) (hb : Below w.heap.size w w') : Nds w' a L := fun i hi => by
  obtain ⟨b, off, e, h⟩ := h i hi
  exact ⟨b, off, e, h.below hb h.lt⟩
theorem Nds.nil (w : World) (a : Option Addr) : Nds w a [] := fun i hi => absurd hi (by simp)
theorem getD_take (L : List Nd) (k i : Nat) (h : i < k) : (L.take k).getD i nz = L.getD i nz := by
  rw [List.getD_eq_getElem?_getD, List.getD_eq_getElem?_getD, List.getElem?_take_of_lt h]
theorem getD_drop (L : List Nd) (k i : Nat) : (L.drop k).getD i nz = L.getD (k + i) nz := by
  rw [List.getD_eq_getElem?_getD, List.getD_eq_getElem?_getD, List.getElem?_drop]
theorem Nds.take {w : World} {a : Option Addr} {L : List Nd} (h : Nds w a L) (k : Nat) : Nds w a (L.take k) := fun i hi => by
  rw [List.length_take] at hi
  obtain ⟨b, off, e, h⟩ := h i (by omega)
  exact ⟨b, off, e, by rw [getD_take L k i (by omega)]; exact h⟩
theorem Nds.drop {w : World} {b off : Nat} {L : List Nd} (h : Nds w (some ⟨b, off, none⟩) L) (k : Nat) : Nds w (some ⟨b, off + k * 11, none⟩) (L.drop k) := fun i hi => by
  rw [List.length_drop] at hi
  obtain ⟨b', off', e, h⟩ := h (k + i) (by omega)
  injection e with e
  injection e with e1 e2
  subst e1 e2
  exact ⟨b, off + k * 11, rfl, by rw [getD_drop, show off + k * 11 + i * 11 = off + (k + i) * 11 by omega]; exact h⟩
structure Qok (w : World) (q : Qu) : Prop where
  len : q.L.length = q.n
  few : q.n ≤ 10
  row : Tsts w q.a q.L
  ok : ∀ v ∈ q.L, Okt v
structure Nok (w : World) (n : Nd) : Prop where
  p : Qok w n.p
  g : Qok w n.g
  k0 : 0 ≤ n.k
  k1 : n.k < 256
  l0 : 0 ≤ n.lo
  l1 : n.lo < 256
  h0 : 0 ≤ n.hi
  h1 : n.hi < 256
  s0 : -9223372036854775808 ≤ n.s
  s1 : n.s ≤ 9223372036854775807
theorem Qok.below {w w' : World} {q : Qu} (h : Qok w q) (hb : Below w.heap.size w w') : Qok w' q := ⟨h.len, h.few, h.row.below hb, h.ok⟩
theorem Nok.below {w w' : World} {n : Nd} (h : Nok w n) (hb : Below w.heap.size w w') : Nok w' n := ⟨h.p.below hb, h.g.below hb, h.k0, h.k1, h.l0, h.l1, h.h0, h.h1, h.s0, h.s1⟩
theorem Qok.zero (w : World) : Qok w qz := ⟨rfl, by decide, Tsts.nil _ _, by simp⟩
structure Pt (w : World) (a : Option Addr) (n c : Nat) (L : List Nd) : Prop where
  len : L.length = n
  few : n ≤ 1000
  cap : n ≤ c
  row : Nds w a L
  ok : ∀ v ∈ L, Nok w v
theorem Pt.below {w w' : World} {a : Option Addr} {n c : Nat} {L : List Nd} (h : Pt w a n c L) (hb : Below w.heap.size w w') : Pt w' a n c L := ⟨h.len, h.few, h.cap, h.row.below hb, fun v hv => (h.ok v hv).below hb⟩
theorem Pt.nil (w : World) (a : Option Addr) (c : Nat) : Pt w a 0 c [] := ⟨rfl, by omega, by omega, Nds.nil _ _, by simp⟩
theorem ndrop_cons (L : List Nd) (k : Nat) (h : k < L.length) : L.drop k = L.getD k nz :: L.drop (k + 1) := by
  rw [List.drop_eq_getElem_cons h, List.getD_eq_getElem?_getD, List.getElem?_eq_getElem h]; rfl
theorem ngetD_mem (L : List Nd) (k : Nat) (h : k < L.length) : L.getD k nz ∈ L := by
  rw [List.getD_eq_getElem?_getD, List.getElem?_eq_getElem h]; exact List.getElem_mem _
def frn : List Nd → List Nd
  | [] => []
  | n :: r => if n.s < 0 ∨ (r.length : Int) < n.s then [] else n :: r.take n.s.toNat
theorem frn_cons (n : Nd) (r : List Nd) : frn (n :: r) = if n.s < 0 ∨ (r.length : Int) < n.s then [] else n :: r.take n.s.toNat := rfl
theorem frn_len (l : List Nd) : (frn l).length ≤ l.length := by
  cases l with
  | nil => simp [frn]
  | cons n r =>
    rw [frn_cons]
    split
    · simp
    · rw [List.length_cons, List.length_cons, List.length_take]; omega
theorem frn_take (l : List Nd) (h : frn l ≠ []) : frn l = l.take (frn l).length := by
  cases l with
  | nil => exact absurd rfl h
  | cons n r =>
    rw [frn_cons] at h ⊢
    by_cases hc : n.s < 0 ∨ (r.length : Int) < n.s
    · rw [if_pos hc] at h; exact absurd rfl h
    · rw [if_neg hc, List.length_cons, List.take_succ_cons, List.length_take, Nat.min_eq_left (by omega)]
theorem frn_idem (l : List Nd) : frn (frn l) = frn l := by
  cases l with
  | nil => rfl
  | cons n r =>
    by_cases hc : n.s < 0 ∨ (r.length : Int) < n.s
    · rw [frn_cons, if_pos hc]; rfl
    · have hl : (r.take n.s.toNat).length = n.s.toNat := by rw [List.length_take, Nat.min_eq_left (by omega)]
      rw [frn_cons, if_neg hc, frn_cons, if_neg (by rw [hl]; omega), List.take_of_length_le (by rw [hl]; omega)]
theorem drop_lt (l : List Nd) (h : l ≠ []) (h2 : ¬ frn l = []) : (l.drop (frn l).length).length < l.length := by
  rw [List.length_drop]
  have h0 : (frn l).length ≠ 0 := fun e => h2 (List.eq_nil_of_length_eq_zero e)
  have h1 : l.length ≠ 0 := fun e => h (List.eq_nil_of_length_eq_zero e)
  omega
def spl (l : List Nd) : Option (List (List Nd)) :=
  if _h : l = [] then some [] else if _h2 : frn l = [] then none else (spl (l.drop (frn l).length)).map (frn l :: ·)
  termination_by l.length
  decreasing_by exact drop_lt l _h _h2
theorem spl_nil : spl [] = some [] := by rw [spl]; simp
theorem spl_cons (l : List Nd) (h : l ≠ []) : spl l = if frn l = [] then none else (spl (l.drop (frn l).length)).map (frn l :: ·) := by
  rw [spl, dif_neg h]; simp only [dite_eq_ite]
theorem spl_mem {l : List Nd} {ps : List (List Nd)} (h : spl l = some ps) : ∀ p ∈ ps, p ≠ [] ∧ frn p = p ∧ p.length ≤ l.length ∧ ∀ v ∈ p, v ∈ l := by
  generalize hk : l.length = k
  induction k using Nat.strongRecOn generalizing l ps with
  | _ k ih =>
    by_cases hl : l = []
    · subst hl; rw [spl_nil] at h; injection h with h; subst h; simp
    · rw [spl_cons l hl] at h
      by_cases hf : frn l = []
      · rw [if_pos hf] at h; cases h
      · rw [if_neg hf] at h
        obtain ⟨qs, hq, rfl⟩ := Option.map_eq_some_iff.1 h
        have h0 : (frn l).length ≠ 0 := fun e => hf (List.eq_nil_of_length_eq_zero e)
        have hlt : (l.drop (frn l).length).length < k := by
          rw [List.length_drop]
          have : l.length ≠ 0 := fun e => hl (List.eq_nil_of_length_eq_zero e)
          omega
        intro p hp
        rcases List.mem_cons.1 hp with rfl | hp
        · refine ⟨hf, frn_idem l, by have := frn_len l; omega, fun v hv => ?_⟩
          rw [frn_take l hf] at hv
          exact List.mem_of_mem_take hv
        · obtain ⟨a1, a2, a3, a4⟩ := ih _ hlt hq rfl p hp
          exact ⟨a1, a2, by omega, fun v hv => List.mem_of_mem_drop (a4 v hv)⟩
def pts (l : List Nd) : List (List Nd) := (spl (frn l).tail).getD []
theorem pts_mem {l : List Nd} : ∀ p ∈ pts l, p ≠ [] ∧ frn p = p ∧ p.length < l.length ∧ ∀ v ∈ p, v ∈ l := by
  intro p hp
  unfold pts at hp
  rcases hs : spl (frn l).tail with _ | ps
  · rw [hs] at hp; simp at hp
  · rw [hs] at hp
    obtain ⟨a1, a2, a3, a4⟩ := spl_mem hs p hp
    have h0 : frn l ≠ [] := fun e => by
      rw [e, List.tail_nil, spl_nil] at hs
      injection hs with hs
      subst hs
      simp at hp
    have h1 := frn_len l
    have h2 : (frn l).length ≠ 0 := fun e => h0 (List.eq_nil_of_length_eq_zero e)
    rw [List.length_tail] at a3
    refine ⟨a1, a2, by omega, fun v hv => ?_⟩
    have := List.mem_of_mem_tail (a4 v hv)
    rw [frn_take l h0] at this
    exact List.mem_of_mem_take this
def ofp (F : List Nd → Bool) (l : List Nd) : Bool :=
  match frn l with
  | [] => false
  | _ :: r => match spl r with
    | none => false
    | some ps => ps.all F
def qno (q : Qu) : Bool := !q.x && decide (q.t = 0) && decide (q.n = 0)
def kd (n : Nd) (m : Nat) : Bool :=
  if n.k = 1 then decide (m = 0) && !n.y && qno n.g && decide (n.lo = 0) && decide (n.hi = 0)
  else if n.k = 2 then decide (2 ≤ m) && qno n.p && (n.y || qno n.g) && decide (n.lo = 0) && decide (n.hi = 0)
  else if n.k = 3 then decide (2 ≤ m) && qno n.p && !n.y && qno n.g && decide (n.lo = 0) && decide (n.hi = 0)
  else if n.k = 4 then decide (m = 1) && qno n.p && (n.y || qno n.g) && decide (1 ≤ n.lo) && decide (n.lo ≤ n.hi) && decide (n.hi ≤ 8)
  else false
def fmd : Nat → List Nd → Bool
  | 0, _ => false
  | k + 1, l => ofp (fmd k) l && kd (l.headD nz) (pts l).length
def dpt : Nat → List Nd → Int
  | 0, _ => 0
  | k + 1, l => (pts l).foldl (fun m p => max m (1 + dpt k p)) 0
def plc : Nat → List Nd → Int
  | 0, _ => 0
  | k + 1, l => if (l.headD nz).k = 1 then 1 else
    let m := (pts l).foldl (fun m p => wrap64 (m + plc k p)) 0
    if (l.headD nz).k = 4 then wrap64 (m * (l.headD nz).hi) else m
theorem dpt_pos (k : Nat) (l : List Nd) : 0 ≤ dpt k l ∧ dpt k l ≤ k := by
  induction k generalizing l with
  | zero => simp [dpt]
  | succ k ih =>
    unfold dpt
    have key : ∀ (ps : List (List Nd)) (m : Int), 0 ≤ m → m ≤ (k + 1 : Nat) → 0 ≤ ps.foldl (fun m p => max m (1 + dpt k p)) m ∧ ps.foldl (fun m p => max m (1 + dpt k p)) m ≤ (k + 1 : Nat) := by
      intro ps
      induction ps with
      | nil => intro m h0 h1; exact ⟨h0, h1⟩
      | cons p ps ih2 =>
        intro m h0 h1
        rw [List.foldl_cons]
        have := ih p
        exact ih2 _ (by omega) (by omega)
    exact key _ 0 (by omega) (by omega)
end Go.Proofs.YtpnllbojifnopaaGreatDoor
namespace Go.Proofs.YtpnllbojifnopaaGreatDoor
open Go Go.RowKit Pk Rl
set_option maxRecDepth 20000
abbrev Hq := Qu → Nat → Bool
def gd (h : Hq) (n : Nd) : Nat → Bool := fun k => n.y && h n.g k
def reps (n : Nat) (rs : List Rl2) : List Rl2 := (List.replicate n rs).flatten
def rel (h : Hq) (N : Nat) : Nat → List Nd → Rl2
  | 0, _ => fun _ _ => false
  | k + 1, l =>
    if (l.headD nz).k = 2 then chn N (gp (gd h (l.headD nz))) ((pts l).map (rel h N k))
    else if (l.headD nz).k = 3 then altr ((pts l).map (rel h N k))
    else if (l.headD nz).k = 4 then anyc N (gd h (l.headD nz)) (reps (l.headD nz).hi.toNat ((pts l).map (rel h N k))) (l.headD nz).lo.toNat
    else fun i j => decide (i = j) && decide (i < N) && h (l.headD nz).p i
theorem rel_succ (h : Hq) (N k : Nat) (l : List Nd) : rel h N (k + 1) l =
    if (l.headD nz).k = 2 then chn N (gp (gd h (l.headD nz))) ((pts l).map (rel h N k))
    else if (l.headD nz).k = 3 then altr ((pts l).map (rel h N k))
    else if (l.headD nz).k = 4 then anyc N (gd h (l.headD nz)) (reps (l.headD nz).hi.toNat ((pts l).map (rel h N k))) (l.headD nz).lo.toNat
    else fun i j => decide (i = j) && decide (i < N) && h (l.headD nz).p i := rfl
theorem rel_fuel (h : Hq) (N k : Nat) (l : List Nd) (hl : l.length < k) : rel h N (k + 1) l = rel h N k l := by
  induction k generalizing l with
  | zero => omega
  | succ k ih =>
    have e : (pts l).map (rel h N (k + 1)) = (pts l).map (rel h N k) := List.map_congr_left fun p hp => ih p (by have := (pts_mem p hp).2.2.1; omega)
    rw [rel_succ, rel_succ h N k, e]
def stp (o : Nat) : List (List Nd) → List Nat
  | [] => []
  | p :: ps => o :: stp (o + p.length) ps
def pos (L : List Nd) (n : Nat) : List Nat := stp (n + 1) (pts (L.drop n))
def rn (h : Hq) (N : Nat) (L : List Nd) (n : Nat) : Rl2 := rel h N 60 (L.drop n)
def ens (h : Hq) (N : Nat) (L : List Nd) (ov : Nat → Nat) (n i : Nat) : List Nat := rng (ov i) (rn h N L n i)
end Go.Proofs.YtpnllbojifnopaaGreatDoor
