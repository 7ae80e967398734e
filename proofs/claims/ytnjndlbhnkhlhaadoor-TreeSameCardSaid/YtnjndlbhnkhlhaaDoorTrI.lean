/- The document's trees: what stands in memory; what they come to, by lists. -/
import Derived.Test.YtnjndlbhnkhlhaaDoorTrH
namespace Go.Proofs.YtnjndlbhnkhlhaaDoor
open Go Go.RowKit Pk Rl
set_option maxRecDepth 20000

/- whether a tree is there; whether it is formed; its places -/
def bld : Nat → List Nd → Bool
  | 0, _ => false
  | k + 1, l => ofp (bld k) l
def fmT : Nat → List Nd → Bool
  | 0, _ => false
  | k + 1, l => kd (l.headD nz) (pts l).length && (pts l).all (fmT k)
def plT : Nat → List Nd → Int
  | 0, _ => 0
  | k + 1, l => if (pts l).length = 0 then 1 else
    let m := (pts l).foldl (fun m p => wrap64 (m + plT k p)) 0
    if (l.headD nz).k = 4 then wrap64 (m * (l.headD nz).hi) else m
theorem ofp_pts (F : List Nd → Bool) (l : List Nd) : ofp F l = (ofp (fun _ => true) l && (pts l).all F) := by
  by_cases h0 : frn l = []
  · rw [ofp_nil h0, ofp_nil h0]; rfl
  · rw [ofp_cons h0, ofp_cons h0]
    unfold pts
    rcases spl (frn l).tail with _ | ps
    · rfl
    · simp
theorem all_and (F G : List Nd → Bool) (ps : List (List Nd)) : ps.all (fun p => F p && G p) = (ps.all F && ps.all G) := by
  induction ps with
  | nil => rfl
  | cons p ps ih =>
    simp only [List.all_cons, ih]
    cases F p <;> cases G p <;> simp
theorem fmd_eq (k : Nat) (l : List Nd) : fmd k l = (bld k l && fmT k l) := by
  induction k generalizing l with
  | zero => rfl
  | succ k ih =>
    show (ofp (fmd k) l && kd (l.headD nz) (pts l).length) = (ofp (bld k) l && (kd (l.headD nz) (pts l).length && (pts l).all (fmT k)))
    rw [ofp_pts (fmd k), ofp_pts (bld k), show fmd k = fun p => bld k p && fmT k p from funext fun p => ih p, all_and]
    cases ofp (fun _ => true) l <;> cases (pts l).all (bld k) <;> cases (pts l).all (fmT k) <;> cases kd (l.headD nz) (pts l).length <;> rfl
theorem kd_one {n : Nd} {m : Nat} (h : kd n m = true) : n.k = 1 ↔ m = 0 := by
  unfold kd at h
  by_cases k1 : n.k = 1
  · rw [if_pos k1] at h
    simp at h
    exact ⟨fun _ => by omega, fun _ => k1⟩
  · rw [if_neg k1] at h
    refine ⟨fun e => absurd e k1, fun e => ?_⟩
    subst e
    by_cases k2 : n.k = 2
    · rw [if_pos k2] at h; simp at h
    · rw [if_neg k2] at h
      by_cases k3 : n.k = 3
      · rw [if_pos k3] at h; simp at h
      · rw [if_neg k3] at h
        by_cases k4 : n.k = 4
        · rw [if_pos k4] at h; simp at h
        · rw [if_neg k4] at h; cases h
theorem fold_congr (F G : List Nd → Int) (ps : List (List Nd)) (h : ∀ p ∈ ps, F p = G p) (m : Int) : ps.foldl (fun m p => wrap64 (m + F p)) m = ps.foldl (fun m p => wrap64 (m + G p)) m := by
  induction ps generalizing m with
  | nil => rfl
  | cons p ps ih =>
    rw [List.foldl_cons, List.foldl_cons, h p (by simp), ih (fun q hq => h q (by simp [hq]))]
theorem plT_eq (k : Nat) (l : List Nd) (h : fmT k l = true) : plT k l = plc k l := by
  induction k generalizing l with
  | zero => rfl
  | succ k ih =>
    unfold fmT at h
    rw [Bool.and_eq_true] at h
    have h1 := kd_one h.1
    unfold plT plc
    by_cases e : (pts l).length = 0
    · rw [if_pos e, if_pos (h1.2 e)]
    · rw [if_neg e, if_neg (fun c => e (h1.1 c))]
      rw [fold_congr (plT k) (plc k) (pts l) (fun p hp => ih p (List.all_eq_true.1 h.2 p hp))]

abbrev tcl12 (n : Nd) (A : Option Addr) (m C : Nat) : List Value := ncl n ++ [.slice A m C]
abbrev tOfT (n : Nd) (A : Option Addr) (m C : Nat) : Value := .agg #[.int .u8 n.k, .bool n.p.x, .int .u8 n.p.t, .slice n.p.a n.p.n n.p.c, .bool n.y, .bool n.g.x, .int .u8 n.g.t, .slice n.g.a n.g.n n.g.c, .int .u8 n.lo, .int .u8 n.hi, .int .i64 n.s, .slice A m C]
abbrev tobjT (n : Nd) (A : Option Addr) (m C : Nat) : Obj := .cells #[.int .u8 n.k, .bool n.p.x, .int .u8 n.p.t, .slice n.p.a n.p.n n.p.c, .bool n.y, .bool n.g.x, .int .u8 n.g.t, .slice n.g.a n.g.n n.g.c, .int .u8 n.lo, .int .u8 n.hi, .int .i64 n.s, .slice A m C] 42
/- a row of trees: so deep, in such blocks -/
def Trs : Nat → World → (Nat → Prop) → Option Addr → List (List Nd) → Prop
  | 0, _, _, _, ps => ps = []
  | k + 1, w, F, a, ps => ∀ i, i < ps.length → ∃ b off A C, a = some ⟨b, off, none⟩ ∧ F b ∧ Atn w b (off + i * 12) ((ps.getD i []).headD nz) ∧ w.cell? ⟨b, off + i * 12 + 11, none⟩ = some (.slice A (pts (ps.getD i [])).length C) ∧ Trs k w F A (pts (ps.getD i []))
theorem Trs.same {k : Nat} : ∀ {w w' : World} {F G : Nat → Prop} {a : Option Addr} {ps : List (List Nd)}, Trs k w F a ps → (∀ b, F b → w'.heap[b]? = w.heap[b]?) → (∀ b, F b → G b) → Trs k w' G a ps := by
  induction k with
  | zero => intro w w' F G a ps h _ _; exact h
  | succ k ih =>
    intro w w' F G a ps h e g i hi
    obtain ⟨b, off, A, C, ha, hF, hn, hc, ht⟩ := h i hi
    exact ⟨b, off, A, C, ha, g b hF, hn.same fun j => World.cell?_of_block (e b hF), by rw [World.cell?_of_block (e b hF)]; exact hc, ih ht e g⟩
theorem Trs.below {k : Nat} {w w' : World} {F : Nat → Prop} {a : Option Addr} {ps : List (List Nd)} (h : Trs k w F a ps) (hb : Below w.heap.size w w') (hF : ∀ b, F b → b < w.heap.size) : Trs k w' F a ps :=
  h.same (fun b hf => hb.block b (hF b hf)) (fun _ hf => hf)
theorem Trs.nil (k : Nat) (w : World) (F : Nat → Prop) (a : Option Addr) : Trs k w F a [] := by
  cases k with
  | zero => rfl
  | succ k => exact fun i hi => absurd hi (by simp)
/- a row of trees of one's own -/
abbrev It := Nd × Option Addr × Nat × Nat
abbrev iz : It := (nz, none, 0, 0)
def icl (x : It) : List Value := tcl12 x.1 x.2.1 x.2.2.1 x.2.2.2
def icls (X : List It) : List Value := X.flatMap icl
theorem icl_len (x : It) : (icl x).length = 12 := rfl
theorem icls_len (X : List It) : (icls X).length = X.length * 12 := by
  induction X with
  | nil => rfl
  | cons v X ih => show (icl v ++ icls X).length = _; rw [List.length_append, ih, List.length_cons, icl_len]; omega
theorem icls_app (X Y : List It) : icls (X ++ Y) = icls X ++ icls Y := by unfold icls; rw [List.flatMap_append]
theorem icls_get (X : List It) (i : Nat) (hi : i < X.length) (j : Nat) (hj : j < 12) : (icls X)[i * 12 + j]? = (icl (X.getD i iz))[j]? := by
  induction X generalizing i with
  | nil => simp at hi
  | cons v X ih =>
    show (icl v ++ icls X)[i * 12 + j]? = _
    have h4 := icl_len v
    rcases i with _ | i
    · rw [List.getElem?_append_left (by omega)]; simp
    · rw [List.getElem?_append_right (by omega), h4, show (i + 1) * 12 + j - 12 = i * 12 + j by omega, ih i (by simpa using hi)]; simp
theorem icls_one (X : List It) : ∀ u ∈ icls X, u.oneCell' = true := by
  intro u hu
  obtain ⟨v, _, h⟩ := List.mem_flatMap.1 hu
  simp only [icl, tcl12, ncl, List.cons_append, List.nil_append, List.mem_cons, List.not_mem_nil, or_false] at h
  rcases h with rfl | rfl | rfl | rfl | rfl | rfl | rfl | rfl | rfl | rfl | rfl | rfl <;> rfl
def Kid (k : Nat) (w : World) (B : Nat) (v : Value) (p : List Nd) (x : It) : Prop :=
  x.1 = p.headD nz ∧ x.2.2.1 = (pts p).length ∧ Trs k w (fun b => B ≤ b ∧ b < w.heap.size ∧ v.ownBlock ≠ some b) x.2.1 (pts p)
def OwnQ (k : Nat) (w : World) (B : Nat) (v : Value) (D : List (List Nd)) : Prop :=
  ∃ X, X.length = D.length ∧ w.ownsRow B 42 12 v D.length (icls X) ∧ ∀ i, i < D.length → Kid k w B v (D.getD i []) (X.getD i iz)
theorem rowQ_below {w w' : World} {B n : Nat} {v : Value} {cs : List Value} (h : w.ownsRow B 42 12 v n cs) (hb : Below w.heap.size w w') : w'.ownsRow B 42 12 v n cs := by
  refine ⟨h.1, ?_⟩
  rcases h.2 with h0 | ⟨g, cap, cur, hv, hg, hh, r⟩
  · exact .inl h0
  · refine .inr ⟨g, cap, cur, hv, hg, ?_, r⟩
    rw [hb.block g ?_]
    · exact hh
    · rcases Nat.lt_or_ge g w.heap.size with h1 | h1
      · exact h1
      · rw [Array.getElem?_eq_none h1] at hh; cases hh
theorem rowQ_set {w : World} {B n : Nat} {v : Value} {cs : List Value} (h : w.ownsRow B 42 12 v n cs) (g j : Nat) (hg : g < B) (x : Value) : (w.setCell ⟨g, j, none⟩ x).ownsRow B 42 12 v n cs := by
  refine ⟨h.1, ?_⟩
  rcases h.2 with h0 | ⟨r, cap, cur, hv, hr, hh, t⟩
  · exact .inl h0
  · refine .inr ⟨r, cap, cur, hv, hr, ?_, t⟩
    rw [heap_setCell_other w ⟨g, j, none⟩ r x (by show r ≠ g; omega)]
    exact hh
theorem Kid.mono {k : Nat} {w w' : World} {B : Nat} {v : Value} {p : List Nd} {x : It} (h : Kid k w B v p x) (e : ∀ b, B ≤ b → b < w.heap.size → v.ownBlock ≠ some b → w'.heap[b]? = w.heap[b]?) (hs : w.heap.size ≤ w'.heap.size) : Kid k w' B v p x :=
  ⟨h.1, h.2.1, h.2.2.same (fun b hb => e b hb.1 hb.2.1 hb.2.2) (fun b hb => ⟨hb.1, by omega, hb.2.2⟩)⟩
theorem OwnQ.below {k : Nat} {w w' : World} {B : Nat} {v : Value} {D : List (List Nd)} (h : OwnQ k w B v D) (hb : Below w.heap.size w w') : OwnQ k w' B v D := by
  obtain ⟨X, h1, h2, h3⟩ := h
  exact ⟨X, h1, rowQ_below h2 hb, fun i hi => (h3 i hi).mono (fun b _ h _ => hb.block b h) hb.size⟩
theorem OwnQ.set {k : Nat} {w : World} {B : Nat} {v : Value} {D : List (List Nd)} (h : OwnQ k w B v D) (g j : Nat) (hg : g < B) (x : Value) : OwnQ k (w.setCell ⟨g, j, none⟩ x) B v D := by
  obtain ⟨X, h1, h2, h3⟩ := h
  exact ⟨X, h1, rowQ_set h2 g j hg x, fun i hi => (h3 i hi).mono (fun b hB _ _ => heap_setCell_other w ⟨g, j, none⟩ b x (by show b ≠ g; omega)) (by simp)⟩
theorem OwnQ.nil (k : Nat) (w : World) (B : Nat) : OwnQ k w B (.slice none 0 0) [] := ⟨[], rfl, World.ownsRow_nil w B 42 12, fun i hi => absurd hi (by simp)⟩
theorem igetD_app (X : List It) (x : It) (i : Nat) (h : i < X.length) : (X ++ [x]).getD i iz = X.getD i iz := by
  simp [List.getD_eq_getElem?_getD, List.getElem?_append_left h]
theorem igetD_last (X : List It) (x : It) : (X ++ [x]).getD X.length iz = x := by simp [List.getD_eq_getElem?_getD]
theorem OwnQ.form {k : Nat} {w : World} {B : Nat} {v : Value} {D : List (List Nd)} (h : OwnQ k w B v D) : ∃ A c, v = .slice A D.length c ∧ Trs (k + 1) w (fun b => B ≤ b ∧ b < w.heap.size) A D := by
  obtain ⟨X, h1, h2, h3⟩ := h
  rcases h2.2 with ⟨rfl, h0⟩ | ⟨g, cap, cur, rfl, hg, hh, _⟩
  · have : D = [] := List.eq_nil_of_length_eq_zero h0
    subst this
    exact ⟨none, 0, rfl, Trs.nil _ _ _ _⟩
  · have hlt : g < w.heap.size := by
      rcases Nat.lt_or_ge g w.heap.size with h1 | h1
      · exact h1
      · rw [Array.getElem?_eq_none h1] at hh; cases hh
    refine ⟨_, _, rfl, fun i hi => ?_⟩
    have key : ∀ j u, j < 12 → (icl (X.getD i iz))[j]? = some u → w.cell? ⟨g, 0 + i * 12 + j, none⟩ = some u := fun j u hj hu => by
      have := World.ownsRow.cells h2 (g := g) rfl (i * 12 + j) u (by rw [icls_get X i (by omega) j hj]; exact hu)
      rwa [add_plain, ← Nat.add_assoc] at this
    obtain ⟨k1, k2, k3⟩ := h3 i hi
    refine ⟨g, 0, (X.getD i iz).2.1, (X.getD i iz).2.2.2, rfl, ⟨hg, hlt⟩, ?_, ?_, k3.same (fun _ _ => rfl) (fun b hb => ⟨hb.1, hb.2.1⟩)⟩
    · rw [← k1]
      exact ⟨key 0 _ (by omega) rfl, key 1 _ (by omega) rfl, key 2 _ (by omega) rfl, key 3 _ (by omega) rfl, key 4 _ (by omega) rfl, key 5 _ (by omega) rfl, key 6 _ (by omega) rfl, key 7 _ (by omega) rfl, key 8 _ (by omega) rfl, key 9 _ (by omega) rfl, key 10 _ (by omega) rfl⟩
    · rw [← k2]
      exact key 11 _ (by omega) rfl
theorem infoQ : ∃ i, Tryd.prog.info? 42 = some i ∧ i.zero = some (tOfT nz none 0 0) ∧ i.size = 12 ∧ i.bytes = 120 :=
  ⟨(Tryd.prog.info? 42).get (by kernel_rfl), by kernel_rfl, by kernel_rfl, by kernel_rfl, by kernel_rfl⟩
end Go.Proofs.YtnjndlbhnkhlhaaDoor
