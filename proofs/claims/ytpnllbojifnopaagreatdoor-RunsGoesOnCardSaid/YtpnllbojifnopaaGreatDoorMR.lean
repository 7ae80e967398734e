/- Contracts, joined: TrI, TrJ, TrK, TrL. -/
import Derived.Test.YtpnllbojifnopaaGreatDoorMKQ
/- The document's trees: what stands in memory; what they come to, by lists. -/
namespace Go.Proofs.YtpnllbojifnopaaGreatDoor
open Go Go.RowKit Pk Rl
set_option maxRecDepth 20000

/- whether a tree is there; whether it is formed; its places -/
def bld : Nat → List Nd → Bool
  | 0, _ => false
  | k + 1, l => ofp (bld k) l
def fmT : Nat → List Nd → Bool
  | 0, _ => false
  | k + 1, l => kd (l.headD nz) (pts l).length && (pts l).all (fmT k)
def plT : Nat → List Nd → Int
  | 0, _ => 0
  | k + 1, l => if (pts l).length = 0 then 1 else
    let m := (pts l).foldl (fun m p => wrap64 (m + plT k p)) 0
    if (l.headD nz).k = 4 then wrap64 (m * (l.headD nz).hi) else m
theorem ofp_pts (F : List Nd → Bool) (l : List Nd) : ofp F l = (ofp (fun _ => true) l && (pts l).all F) := by
  by_cases h0 : frn l = []
  · rw [ofp_nil h0, ofp_nil h0]; rfl
  · rw [ofp_cons h0, ofp_cons h0]
    unfold pts
    rcases spl (frn l).tail with _ | ps
    · rfl
    · simp
theorem all_and (F G : List Nd → Bool) (ps : List (List Nd)) : ps.all (fun p => F p && G p) = (ps.all F && ps.all G) := by
  induction ps with
  | nil => rfl
  | cons p ps ih =>
    simp only [List.all_cons, ih]
    cases F p <;> cases G p <;> simp
theorem fmd_eq (k : Nat) (l : List Nd) : fmd k l = (bld k l && fmT k l) := by
  induction k generalizing l with
  | zero => rfl
  | succ k ih =>
    show (ofp (fmd k) l && kd (l.headD nz) (pts l).length) = (ofp (bld k) l && (kd (l.headD nz) (pts l).length && (pts l).all (fmT k)))
    rw [ofp_pts (fmd k), ofp_pts (bld k), show fmd k = fun p => bld k p && fmT k p from funext fun p => ih p, all_and]
    cases ofp (fun _ => true) l <;> cases (pts l).all (bld k) <;> cases (pts l).all (fmT k) <;> cases kd (l.headD nz) (pts l).length <;> rfl
theorem kd_one {n : Nd} {m : Nat} (h : kd n m = true) : n.k = 1 ↔ m = 0 := by
  unfold kd at h
  by_cases k1 : n.k = 1
  · rw [if_pos k1] at h
    simp at h
    exact ⟨fun _ => by omega, fun _ => k1⟩
  · rw [if_neg k1] at h
    refine ⟨fun e => absurd e k1, fun e => ?_⟩
    subst e
    by_cases k2 : n.k = 2
    · rw [if_pos k2] at h; simp at h
    · rw [if_neg k2] at h
      by_cases k3 : n.k = 3
      · rw [if_pos k3] at h; simp at h
      · rw [if_neg k3] at h
        by_cases k4 : n.k = 4
        · rw [if_pos k4] at h; simp at h
        · rw [if_neg k4] at h; cases h
theorem fold_congr (F G : List Nd → Int) (ps : List (List Nd)) (h : ∀ p ∈ ps, F p = G p) (m : Int) : ps.foldl (fun m p => wrap64 (m + F p)) m = ps.foldl (fun m p => wrap64 (m + G p)) m := by
  induction ps generalizing m with
  | nil => rfl
  | cons p ps ih =>
    rw [List.foldl_cons, List.foldl_cons, h p (by simp), ih (fun q hq => h q (by simp [hq]))]
theorem plT_eq (k : Nat) (l : List Nd) (h : fmT k l = true) : plT k l = plc k l := by
  induction k generalizing l with
  | zero => rfl
  | succ k ih =>
    unfold fmT at h
    rw [Bool.and_eq_true] at h
    have h1 := kd_one h.1
    unfold plT plc
    by_cases e : (pts l).length = 0
    · rw [if_pos e, if_pos (h1.2 e)]
    · rw [if_neg e, if_neg (fun c => e (h1.1 c))]
      rw [fold_congr (plT k) (plc k) (pts l) (fun p hp => ih p (List.all_eq_true.1 h.2 p hp))]

abbrev tcl12 (n : Nd) (A : Option Addr) (m C : Nat) : List Value := ncl n ++ [.slice A m C]
abbrev tOfT (n : Nd) (A : Option Addr) (m C : Nat) : Value := .agg #[.int .u8 n.k, .bool n.p.x, .int .u8 n.p.t, .slice n.p.a n.p.n n.p.c, .bool n.y, .bool n.g.x, .int .u8 n.g.t, .slice n.g.a n.g.n n.g.c, .int .u8 n.lo, .int .u8 n.hi, .int .i64 n.s, .slice A m C]
abbrev tobjT (n : Nd) (A : Option Addr) (m C : Nat) : Obj := .cells #[.int .u8 n.k, .bool n.p.x, .int .u8 n.p.t, .slice n.p.a n.p.n n.p.c, .bool n.y, .bool n.g.x, .int .u8 n.g.t, .slice n.g.a n.g.n n.g.c, .int .u8 n.lo, .int .u8 n.hi, .int .i64 n.s, .slice A m C] 60
/- a row of trees: so deep, in such blocks -/
def Trs : Nat → World → (Nat → Prop) → Option Addr → List (List Nd) → Prop
  | 0, _, _, _, ps => ps = []
  | k + 1, w, F, a, ps => ∀ i, i < ps.length → ∃ b off A C, a = some ⟨b, off, none⟩ ∧ F b ∧ Atn w b (off + i * 12) ((ps.getD i []).headD nz) ∧ w.cell? ⟨b, off + i * 12 + 11, none⟩ = some (.slice A (pts (ps.getD i [])).length C) ∧ Trs k w F A (pts (ps.getD i []))
theorem Trs.same {k : Nat} : ∀ {w w' : World} {F G : Nat → Prop} {a : Option Addr} {ps : List (List Nd)}, Trs k w F a ps → (∀ b, F b → w'.heap[b]? = w.heap[b]?) → (∀ b, F b → G b) → Trs k w' G a ps := by
  induction k with
  | zero => intro w w' F G a ps h _ _; exact h
  | succ k ih =>
    intro w w' F G a ps h e g i hi
    obtain ⟨b, off, A, C, ha, hF, hn, hc, ht⟩ := h i hi
    exact ⟨b, off, A, C, ha, g b hF, hn.same fun j => World.cell?_of_block (e b hF), by rw [World.cell?_of_block (e b hF)]; exact hc, ih ht e g⟩
theorem Trs.below {k : Nat} {w w' : World} {F : Nat → Prop} {a : Option Addr} {ps : List (List Nd)} (h : Trs k w F a ps) (hb : Below w.heap.size w w') (hF : ∀ b, F b → b < w.heap.size) : Trs k w' F a ps :=
  h.same (fun b hf => hb.block b (hF b hf)) (fun _ hf => hf)
theorem Trs.nil (k : Nat) (w : World) (F : Nat → Prop) (a : Option Addr) : Trs k w F a [] := by
  cases k with
  | zero => rfl
  | succ k => exact fun i hi => absurd hi (by simp)
/- a row of trees of one's own -/
abbrev It := Nd × Option Addr × Nat × Nat
abbrev iz : It := (nz, none, 0, 0)
def icl (x : It) : List Value := tcl12 x.1 x.2.1 x.2.2.1 x.2.2.2
def icls (X : List It) : List Value := X.flatMap icl
theorem icl_len (x : It) : (icl x).length = 12 := rfl
theorem icls_len (X : List It) : (icls X).length = X.length * 12 := by
  induction X with
  | nil => rfl
  | cons v X ih => show (icl v ++ icls X).length = _; rw [List.length_append, ih, List.length_cons, icl_len]; omega
theorem icls_app (X Y : List It) : icls (X ++ Y) = icls X ++ icls Y := by unfold icls; rw [List.flatMap_append]
theorem icls_get (X : List It) (i : Nat) (hi : i < X.length) (j : Nat) (hj : j < 12) : (icls X)[i * 12 + j]? = (icl (X.getD i iz))[j]? := by
  induction X generalizing i with
  | nil => simp at hi
  | cons v X ih =>
    show (icl v ++ icls X)[i * 12 + j]? = _
    have h4 := icl_len v
    rcases i with _ | i
    · rw [List.getElem?_append_left (by omega)]; simp
    · rw [List.getElem?_append_right (by omega), h4, show (i + 1) * 12 + j - 12 = i * 12 + j by omega, ih i (by simpa using hi)]; simp
theorem icls_one (X : List It) : ∀ u ∈ icls X, u.oneCell' = true := by
  intro u hu
  obtain ⟨v, _, h⟩ := List.mem_flatMap.1 hu
  simp only [icl, tcl12, ncl, List.cons_append, List.nil_append, List.mem_cons, List.not_mem_nil, or_false] at h
  rcases h with rfl | rfl | rfl | rfl | rfl | rfl | rfl | rfl | rfl | rfl | rfl | rfl <;> rfl
def Kid (k : Nat) (w : World) (B : Nat) (v : Value) (p : List Nd) (x : It) : Prop :=
  x.1 = p.headD nz ∧ x.2.2.1 = (pts p).length ∧ Trs k w (fun b => B ≤ b ∧ b < w.heap.size ∧ v.ownBlock ≠ some b) x.2.1 (pts p)
def OwnQ (k : Nat) (w : World) (B : Nat) (v : Value) (D : List (List Nd)) : Prop :=
  ∃ X, X.length = D.length ∧ w.ownsRow B 60 12 v D.length (icls X) ∧ ∀ i, i < D.length → Kid k w B v (D.getD i []) (X.getD i iz)
theorem rowQ_below {w w' : World} {B n : Nat} {v : Value} {cs : List Value} (h : w.ownsRow B 60 12 v n cs) (hb : Below w.heap.size w w') : w'.ownsRow B 60 12 v n cs := by
  refine ⟨h.1, ?_⟩
  rcases h.2 with h0 | ⟨g, cap, cur, hv, hg, hh, r⟩
  · exact .inl h0
  · refine .inr ⟨g, cap, cur, hv, hg, ?_, r⟩
    rw [hb.block g ?_]
    · exact hh
    · rcases Nat.lt_or_ge g w.heap.size with h1 | h1
      · exact h1
      · rw [Array.getElem?_eq_none h1] at hh; cases hh
theorem rowQ_set {w : World} {B n : Nat} {v : Value} {cs : List Value} (h : w.ownsRow B 60 12 v n cs) (g j : Nat) (hg : g < B) (x : Value) : (w.setCell ⟨g, j, none⟩ x).ownsRow B 60 12 v n cs := by
  refine ⟨h.1, ?_⟩
  rcases h.2 with h0 | ⟨r, cap, cur, hv, hr, hh, t⟩
  · exact .inl h0
  · refine .inr ⟨r, cap, cur, hv, hr, ?_, t⟩
    rw [heap_setCell_other w ⟨g, j, none⟩ r x (by show r ≠ g; omega)]
    exact hh
theorem Kid.mono {k : Nat} {w w' : World} {B : Nat} {v : Value} {p : List Nd} {x : It} (h : Kid k w B v p x) (e : ∀ b, B ≤ b → b < w.heap.size → v.ownBlock ≠ some b → w'.heap[b]? = w.heap[b]?) (hs : w.heap.size ≤ w'.heap.size) : Kid k w' B v p x :=
  ⟨h.1, h.2.1, h.2.2.same (fun b hb => e b hb.1 hb.2.1 hb.2.2) (fun b hb => ⟨hb.1, by omega, hb.2.2⟩)⟩
theorem OwnQ.below {k : Nat} {w w' : World} {B : Nat} {v : Value} {D : List (List Nd)} (h : OwnQ k w B v D) (hb : Below w.heap.size w w') : OwnQ k w' B v D := by
  obtain ⟨X, h1, h2, h3⟩ := h
  exact ⟨X, h1, rowQ_below h2 hb, fun i hi => (h3 i hi).mono (fun b _ h _ => hb.block b h) hb.size⟩
theorem OwnQ.set {k : Nat} {w : World} {B : Nat} {v : Value} {D : List (List Nd)} (h : OwnQ k w B v D) (g j : Nat) (hg : g < B) (x : Value) : OwnQ k (w.setCell ⟨g, j, none⟩ x) B v D := by
  obtain ⟨X, h1, h2, h3⟩ := h
  exact ⟨X, h1, rowQ_set h2 g j hg x, fun i hi => (h3 i hi).mono (fun b hB _ _ => heap_setCell_other w ⟨g, j, none⟩ b x (by show b ≠ g; omega)) (by simp)⟩
theorem OwnQ.nil (k : Nat) (w : World) (B : Nat) : OwnQ k w B (.slice none 0 0) [] := ⟨[], rfl, World.ownsRow_nil w B 60 12, fun i hi => absurd hi (by simp)⟩
theorem igetD_app (X : List It) (x : It) (i : Nat) (h : i < X.length) : (X ++ [x]).getD i iz = X.getD i iz := by
  simp [List.getD_eq_getElem?_getD, List.getElem?_append_left h]
theorem igetD_last (X : List It) (x : It) : (X ++ [x]).getD X.length iz = x := by simp [List.getD_eq_getElem?_getD]
theorem OwnQ.form {k : Nat} {w : World} {B : Nat} {v : Value} {D : List (List Nd)} (h : OwnQ k w B v D) : ∃ A c, v = .slice A D.length c ∧ Trs (k + 1) w (fun b => B ≤ b ∧ b < w.heap.size) A D := by
  obtain ⟨X, h1, h2, h3⟩ := h
  rcases h2.2 with ⟨rfl, h0⟩ | ⟨g, cap, cur, rfl, hg, hh, _⟩
  · have : D = [] := List.eq_nil_of_length_eq_zero h0
    subst this
    exact ⟨none, 0, rfl, Trs.nil _ _ _ _⟩
  · have hlt : g < w.heap.size := by
      rcases Nat.lt_or_ge g w.heap.size with h1 | h1
      · exact h1
      · rw [Array.getElem?_eq_none h1] at hh; cases hh
    refine ⟨_, _, rfl, fun i hi => ?_⟩
    have key : ∀ j u, j < 12 → (icl (X.getD i iz))[j]? = some u → w.cell? ⟨g, 0 + i * 12 + j, none⟩ = some u := fun j u hj hu => by
      have := World.ownsRow.cells h2 (g := g) rfl (i * 12 + j) u (by rw [icls_get X i (by omega) j hj]; exact hu)
      rwa [add_plain, ← Nat.add_assoc] at this
    obtain ⟨k1, k2, k3⟩ := h3 i hi
    refine ⟨g, 0, (X.getD i iz).2.1, (X.getD i iz).2.2.2, rfl, ⟨hg, hlt⟩, ?_, ?_, k3.same (fun _ _ => rfl) (fun b hb => ⟨hb.1, hb.2.1⟩)⟩
    · rw [← k1]
      exact ⟨key 0 _ (by omega) rfl, key 1 _ (by omega) rfl, key 2 _ (by omega) rfl, key 3 _ (by omega) rfl, key 4 _ (by omega) rfl, key 5 _ (by omega) rfl, key 6 _ (by omega) rfl, key 7 _ (by omega) rfl, key 8 _ (by omega) rfl, key 9 _ (by omega) rfl, key 10 _ (by omega) rfl⟩
    · rw [← k2]
      exact key 11 _ (by omega) rfl
theorem infoQ : ∃ i, Tryz.prog.info? 60 = some i ∧ i.zero = some (tOfT nz none 0 0) ∧ i.size = 12 ∧ i.bytes = 120 :=
  ⟨(Tryz.prog.info? 60).get (by kernel_rfl), by kernel_rfl, by kernel_rfl, by kernel_rfl, by kernel_rfl⟩
end Go.Proofs.YtpnllbojifnopaaGreatDoor

/- The document's build: trees out of nodes. -/
namespace Go.Proofs.YtpnllbojifnopaaGreatDoor
open Go Go.RowKit Pk Rl
set_option maxRecDepth 20000

theorem wp_appq {ops : Array Oper} {rest : List Oper} {o : Oper} {a : Act} {Q : Exit → Act → World → Prop} (s x : Operand) (w : World) (hgd : o.guard = none)
    (hop : o.op = .call { callee := .builtin .append, args := #[s, x], argTypes := #[58, 58] })
    (k : Nat) (B : Nat) (v : Value) (D : List (List Nd)) (hs : a.eval s = v) (ho : OwnQ k w B v D) (g : Nat) (hx : a.eval x = .slice (some ⟨g, 0, none⟩) 1 1) (p : List Nd) (nd : Nd) (A : Option Addr) (mm C : Nat)
    (hc : w.heap[g]? = some (tobjT nd A mm C)) (hk : Kid k w B v p (nd, A, mm, C))
    (hlen : D.length ≤ 100000) (hB : B ≤ w.heap.size) (m : Nat) (hm : D.length + 1 = m)
    (h : ∀ A' c' w', OwnQ k w' B (.slice A' m c') (D ++ [p]) → Below B w w' → wpList Tryz.prog ops Q rest (a.put o.dst (.slice A' m c')) w') : wpList Tryz.prog ops Q (o :: rest) a w := by
  refine wpList_plain hgd fun K hK => ?_
  obtain ⟨i, hi, hz, hsz, hy⟩ := infoQ
  obtain ⟨X, h1, h2, h3⟩ := ho
  obtain ⟨v', w', hrun, r2, r3, _, r5⟩ := run_append_own_at (P := Tryz.prog) w B 58 o.type 60 i (tOfT nz none 0 0) 12 120 Tryz.underlying58 hi hz hsz hy rfl (by omega) v D.length (icls X) h2 ⟨g, 0, none⟩ 1 1 (icl (nd, A, mm, C)) rfl
    (fun j u hj => by
      have hjl : j < 12 := by
        rcases Nat.lt_or_ge j (icl (nd, A, mm, C)).length with h | h
        · exact h
        · rw [List.getElem?_eq_none h] at hj; cases hj
      rw [add_plain, cell_of_row w g _ _ _ _ hc, ← hj]
      rcases j with _ | _ | _ | _ | _ | _ | _ | _ | _ | _ | _ | _ | j
      all_goals first | rfl | omega)
    (fun u hu => icls_one [(nd, A, mm, C)] u (by simpa [icls] using hu)) (by unfold maxLen; omega) (by omega) hB
  have hO : OwnQ k w' B v' (D ++ [p]) := by
    refine ⟨X ++ [(nd, A, mm, C)], by simp [h1], by rw [List.length_append, icls_app]; simpa [icls] using r2, fun j hj => ?_⟩
    have old : ∀ q x, Kid k w B v q x → Kid k w' B v' q x := fun q x hq =>
      ⟨hq.1, hq.2.1, hq.2.2.same (fun b hb => r3.block b hb.2.1 (Ne.symm hb.2.2)) (fun b hb => ⟨hb.1, by have := r3.size; omega, by
        rcases r5 with e | e
        · rw [e]; exact hb.2.2
        · rw [e]; intro e2; injection e2 with e2; omega⟩)⟩
    rw [List.length_append, List.length_singleton] at hj
    by_cases hjl : j < D.length
    · rw [pgetD_app D p j hjl, igetD_app X _ j (by omega)]
      exact old _ _ (h3 j hjl)
    · obtain rfl : j = D.length := by omega
      rw [pgetD_last, ← h1, igetD_last]
      exact old _ _ hk
  obtain ⟨A', c', rfl, _⟩ := hO.form
  have ek : (D ++ [p]).length = m := by rw [List.length_append, List.length_singleton, hm]
  rw [ek] at hO hrun
  unfold Oper.wp
  simp [execOp, hop, resolve, invoke, builtin, hs, hx, hrun, Result.andThen]
  exact hK _ _ (h A' c' w' hO ((Below.refl _ _).grown r3 hB (fun k hk => (World.ownsRow.lt h2 k hk).1)))
/- what build answers -/
def Bt (k : Nat) (w : World) (at_ : Nat) (l : List Nd) (e : Ending) (w' : World) : Prop :=
  ∃ nd A m C N, e = .returned (.tuple #[tOfT nd A m C, .int .i64 (N : Int), .bool (bld k l)]) ∧ (bld k l = true → nd = l.headD nz ∧ m = (pts l).length ∧ N = ((at_ + (frn l).length : Nat) : Int) ∧ Trs k w' (fun b => w.heap.size ≤ b ∧ b < w'.heap.size) A (pts l))
theorem headD_frn {l : List Nd} (h : frn l ≠ []) : l.headD nz = (frn l).headD nz := by
  rcases l with _ | ⟨n, r⟩
  · exact absurd rfl h
  · rw [frn_cons] at h ⊢
    split
    · rename_i hc; rw [if_pos hc] at h; exact absurd rfl h
    · rfl
/- a tree in a box of its own -/
def Trb (w : World) (g : Nat) (n : Nd) (A : Option Addr) (m C : Nat) : Prop := w.heap[g]? = some (tobjT n A m C)
theorem Trb.cells {w : World} {g : Nat} {n : Nd} {A : Option Addr} {m C : Nat} (h : Trb w g n A m C) : Atn w g 0 n ∧ w.cell? ⟨g, 11, none⟩ = some (.slice A m C) := by
  refine ⟨⟨?_, ?_, ?_, ?_, ?_, ?_, ?_, ?_, ?_, ?_, ?_⟩, ?_⟩ <;> (rw [cell_of_row w g _ _ _ _ h]; rfl)
theorem Trb.free {w : World} {g : Nat} {n : Nd} {A : Option Addr} {m C : Nat} (h : Trb w g n A m C) (j : Nat) : w.frozen? ⟨g, j, none⟩ = false := by
  simp [World.frozen?, Trb] at h ⊢
  simp [h]
theorem Trb.lt {w : World} {g : Nat} {n : Nd} {A : Option Addr} {m C : Nat} (h : Trb w g n A m C) : g < w.heap.size := World.block_lt_of_cell? _ _ h.cells.2
theorem Trb.below {B : Nat} {w w' : World} {g : Nat} {n : Nd} {A : Option Addr} {m C : Nat} (h : Trb w g n A m C) (hb : Below B w w') (hg : g < B) : Trb w' g n A m C := by unfold Trb; rw [hb.block g hg]; exact h
theorem Trb.set {w : World} {g : Nat} {n : Nd} {A : Option Addr} {m C : Nat} (h : Trb w g n A m C) (A' : Option Addr) (m' C' : Nat) : Trb (w.setCell ⟨g, 11, none⟩ (.slice A' m' C')) g n A' m' C' := by
  unfold Trb
  rw [heap_setCell_same w g 11 _ _ _ h]
  rfl
theorem Trb.start (w : World) (n : Nd) (A : Option Addr) (m C : Nat) : Trb (w.alloc (tobjT n A m C)) w.heap.size n A m C := heap_alloc_new w _
end Go.Proofs.YtpnllbojifnopaaGreatDoor

/- The document's build, walked. -/
namespace Go.Proofs.YtpnllbojifnopaaGreatDoor
open Go Go.RowKit Pk Rl
set_option maxRecDepth 20000

/- a stretch of a row -/
def sub (L : List Nd) (i j : Nat) : List Nd := (L.take j).drop i
theorem sub_len (L : List Nd) (i j : Nat) (h : j ≤ L.length) : (sub L i j).length = j - i := by
  unfold sub; rw [List.length_drop, List.length_take, Nat.min_eq_left h]
theorem sub_cons (L : List Nd) (i j : Nat) (h : i < j) (hj : j ≤ L.length) : sub L i j = L.getD i nz :: sub L (i + 1) j := by
  unfold sub
  rw [ndrop_cons (L.take j) i (by rw [List.length_take, Nat.min_eq_left hj]; exact h), getD_take L j i h]
theorem sub_nil (L : List Nd) (i j : Nat) (h : j ≤ i) : sub L i j = [] := by
  unfold sub
  exact List.drop_eq_nil_of_le (by rw [List.length_take]; omega)
theorem sub_drop (L : List Nd) (i j m : Nat) : (sub L i j).drop m = sub L (i + m) j := by unfold sub; rw [List.drop_drop]
theorem sub_take (L : List Nd) (i j m : Nat) (h : i + m ≤ j) : (sub L i j).take m = sub L i (i + m) := by
  unfold sub
  rw [List.take_drop, List.take_take, Nat.min_eq_left h]
theorem frn_sub (L : List Nd) (i j s : Nat) (h : i + 1 + s ≤ j) (hj : j ≤ L.length) (hs : (L.getD i nz).s = (s : Int)) : frn (sub L i j) = L.getD i nz :: sub L (i + 1) (i + 1 + s) := by
  rw [sub_cons L i j (by omega) hj, frn_cons, if_neg (by rw [sub_len L _ _ hj, hs]; omega), hs, Int.toNat_natCast, sub_take L (i + 1) j s h]
theorem frn_bad (L : List Nd) (i j : Nat) (h : i < j) (hj : j ≤ L.length) (hs : (L.getD i nz).s < 0 ∨ (j : Int) - i - 1 < (L.getD i nz).s) : frn (sub L i j) = [] := by
  rw [sub_cons L i j h hj, frn_cons, if_pos (by rw [sub_len L _ _ hj]; omega)]
theorem bld_frn (k : Nat) (l : List Nd) : bld k (frn l) = bld k l := by
  cases k with
  | zero => rfl
  | succ k => show ofp (bld k) (frn l) = ofp (bld k) l; unfold ofp; rw [frn_idem]
theorem pts_frn (l : List Nd) : pts (frn l) = pts l := by unfold pts; rw [frn_idem]
theorem bld_no {k : Nat} {l : List Nd} (h : frn l = []) : bld k l = false := by
  cases k with
  | zero => rfl
  | succ k => exact ofp_nil h
theorem Kid.new {k : Nat} {w w' : World} {B : Nat} {v : Value} {D : List (List Nd)} (hO : OwnQ k w B v D) (hB : B ≤ w.heap.size) {p : List Nd} {A : Option Addr} (C : Nat) (hT : Trs k w' (fun b => w.heap.size ≤ b ∧ b < w'.heap.size) A (pts p)) : Kid k w' B v p (p.headD nz, A, (pts p).length, C) := by
  obtain ⟨X, h1, h2, h3⟩ := hO
  refine ⟨rfl, rfl, hT.same (fun _ _ => rfl) (fun b hb => ⟨by omega, hb.2, fun e => ?_⟩)⟩
  have := (World.ownsRow.lt h2 b e).2
  omega
structure Bd (k : Nat) (w W : World) (nd : Nd) (A : Option Addr) (m c : Nat) (D : List (List Nd)) : Prop where
  res : Trb W w.heap.size nz none 0 0
  box : Trb W (w.heap.size + 1) nd A m c
  own : OwnQ k W (w.heap.size + 2) (.slice A m c) D
  bel : Below w.heap.size w W
  big : w.heap.size + 2 ≤ W.heap.size
  len : D.length = m
theorem Bd.next {k : Nat} {w W W' : World} {nd : Nd} {A : Option Addr} {m c : Nat} {D : List (List Nd)} (h : Bd k w W nd A m c D) (hb : Below W.heap.size W W') : Bd k w W' nd A m c D :=
  ⟨h.res.below hb (by have := h.big; omega), h.box.below hb (by have := h.big; omega), h.own.below hb, below_go h.bel hb, Nat.le_trans h.big hb.size, h.len⟩
theorem Bd.start (k : Nat) (w : World) (nd : Nd) : Bd k w ((w.alloc (tobjT nz none 0 0)).alloc (tobjT nd none 0 0)) nd none 0 0 [] := by
  have h1 := (Trb.start w nz none 0 0).below (below_alloc _ (tobjT nd none 0 0)) (by simp)
  have h2 := Trb.start (w.alloc (tobjT nz none 0 0)) nd none 0 0
  rw [World.size_alloc] at h2
  exact ⟨h1, h2, OwnQ.nil _ _ _, below_go (below_alloc w _) (below_alloc _ _), by simp, rfl⟩
theorem Bd.step {k : Nat} {w W W' : World} {nd : Nd} {A : Option Addr} {m c : Nat} {D : List (List Nd)} (h : Bd k w W nd A m c D) {A' : Option Addr} {m' c' : Nat} {D' : List (List Nd)} (hO : OwnQ k W' (w.heap.size + 2) (.slice A' m' c') D') (hb : Below (w.heap.size + 2) W W') (hl : D'.length = m') :
    Bd k w (W'.setCell ⟨w.heap.size + 1, 11, none⟩ (.slice A' m' c')) nd A' m' c' D' := by
  refine ⟨?_, (h.box.below hb (by omega)).set _ _ _, hO.set _ _ (by omega) _, (h.bel.trans (hb.mono (by omega))).setCell (by show w.heap.size ≤ w.heap.size + 1; omega) _, by rw [World.size_setCell]; exact Nat.le_trans h.big hb.size, hl⟩
  have := h.res.below hb (by omega)
  unfold Trb at this ⊢
  rw [heap_setCell_other W' ⟨w.heap.size + 1, 11, none⟩ _ _ (by show w.heap.size ≠ w.heap.size + 1; omega)]
  exact this
/- nothing was built -/
theorem Bt.no {k : Nat} {w w' : World} {at_ : Nat} {l : List Nd} (h : bld k l = false) : Bt k w at_ l (.returned (.tuple #[tOfT nz none 0 0, .int .i64 0, .bool false])) w' :=
  ⟨nz, none, 0, 0, 0, by rw [h], fun e => by rw [h] at e; cases e⟩
set_option maxHeartbeats 4000000 in
theorem build_any (k : Nat) : ∀ (a : Option Addr) (n c : Nat) (L : List Nd) (w : World) (i j : Nat), i ≤ j → j ≤ n → j - i < k → Pt w a n c L →
    Calls Tryz.prog 61 #[.slice a n c, .int .i64 (i : Int), .int .i64 (j : Int)] w fun e w' => Bt k w i (sub L i j) e w' ∧ Below w.heap.size w w' := by
  induction k with
  | zero => intro a n c L w i j _ _ h; exact absurd h (by omega)
  | succ k ih =>
    intro a n c L w i j hij hjn hk hP
    have IH := Lib.hid ih
    clear ih
    have BA := Lib.hid (below_alloc w (tobjT nz none 0 0))
    by_cases c1 : j ≤ i
    · have NO := Lib.hid (fun w' => Bt.no (k := k + 1) (w := w) (w' := w') (at_ := i) (l := sub L i j) (by rw [sub_nil L i j c1]; exact bld_no rfl))
      have c1' : (j : Int) ≤ (i : Int) := by omega
      clear IH hP
      generalize sub L i j = l at NO ⊢
      go_enter Tryz.func61, Tryz.ntmps61
      go_wp2_with fail
      exact bodyPost_ret (v := .tuple #[tOfT nz none 0 0, .int .i64 0, .bool false]) (by simp [results, Tryz.results61, go_sem]) rfl ⟨NO.out _, BA.out⟩
    · have hlen := hP.len
      obtain ⟨b, off, rfl, hat⟩ := hP.row i (by omega)
      have s0 := (hP.ok _ (ngetD_mem L i (by omega))).s0
      have s1 := (hP.ok _ (ngetD_mem L i (by omega))).s1
      have c1' : ¬ (j : Int) ≤ (i : Int) := by omega
      have BS := Lib.hid (Bd.start k w (L.getD i nz))
      have HD : Hid ((sub L i j).headD nz = L.getD i nz) := Lib.hid (by rw [sub_cons L i j (by omega) (by omega)]; rfl)
      have FS := Lib.hid (fun s hs => frn_sub L i j s hs (by omega))
      have FB := Lib.hid (frn_bad L i j (by omega) (by omega))
      have hfew := hP.few
      have HP := Lib.hid hP
      obtain ⟨nd, hnd⟩ : ∃ nd, L.getD i nz = nd := ⟨_, rfl⟩
      rw [hnd] at hat s0 s1 BS HD FB FS
      obtain ⟨l, hl⟩ : ∃ l, sub L i j = l := ⟨_, rfl⟩
      rw [hl] at HD FS FB ⊢
      clear hnd hl hP
      have HA := Lib.hid (hat.below BA.out hat.lt)
      obtain ⟨ns, hns⟩ : ∃ ns, nd.s = ns := ⟨_, rfl⟩
      rw [hns] at s0 s1 FB FS
      have hat2 := hat
      obtain ⟨e0, e1, e2, e3, e4, e5, e6, e7, e8, e9, e10⟩ := hat2
      have i1 : (i : Int) < (n : Int) := by omega
      have blt := hat.lt
      by_cases c2 : ns < 0 ∨ (j : Int) - i - 1 < ns
      · have NO := Lib.hid (fun w' => Bt.no (k := k + 1) (w := w) (w' := w') (at_ := i) (l := l) (bld_no (FB.out c2)))
        have B2 := Lib.hid BS.out.bel
        clear IH FS FB HP HA BS hat HD BA
        rw [hns] at e10
        obtain ⟨kk, ⟨x, t, a', qn, c', L'⟩, y, ⟨x2, t2, a2, q2, c2', L2⟩, lo, hi, s⟩ := nd
        simp only at e0 e1 e2 e3 e4 e5 e6 e7 e8 e9 e10 hns
        subst hns
        by_cases c3 : s < 0
        · go_enter Tryz.func61, Tryz.ntmps61
          go_wp2_with fail
          exact bodyPost_ret (v := .tuple #[tOfT nz none 0 0, .int .i64 0, .bool false]) (by simp [results, Tryz.results61, go_sem]) rfl ⟨NO.out _, B2.out⟩
        · have c4 : (j : Int) - (i : Int) - 1 < s := by omega
          go_enter Tryz.func61, Tryz.ntmps61
          go_wp2_with fail
          exact bodyPost_ret (v := .tuple #[tOfT nz none 0 0, .int .i64 0, .bool false]) (by simp [results, Tryz.results61, go_sem]) rfl ⟨NO.out _, B2.out⟩
      · obtain ⟨sn, hsn⟩ : ∃ sn : Nat, ns = (sn : Int) := ⟨ns.toNat, by omega⟩
        have hle : i + 1 + sn ≤ j := by omega
        have FR := Lib.hid (FS.out sn hle hsn)
        obtain ⟨en, hen⟩ : ∃ en, i + 1 + sn = en := ⟨_, rfl⟩
        rw [hen] at FR
        have EN := Lib.hid hen
        have EB := Lib.hid (show en ≤ n ∧ en - (i + 1) < k ∧ n ≤ 1000 by omega)
        have FN := Lib.hid (show frn l ≠ [] by rw [FR.out]; simp)
        have FT := Lib.hid (show (frn l).tail = sub L (i + 1) en by rw [FR.out]; rfl)
        have FL := Lib.hid (show i + (frn l).length = en by rw [FR.out, List.length_cons, sub_len L _ _ (by omega)]; omega)
        have CE := Lib.hid (show ((en : Nat) : Int) = (i : Int) + 1 + (sn : Int) by omega)
        have S0 := Lib.hid (Sp.start (bld k) (frn l).tail)
        have c3 : ¬ ns < 0 := by omega
        have c4 : ¬ (j : Int) - (i : Int) - 1 < (sn : Int) := by omega
        have b1 : (i : Int) + 1 ≤ 2000 := by omega
        have b2 : (i : Int) + 1 + (sn : Int) ≤ 2000 := by omega
        rw [hsn] at hns c3 s0 s1
        obtain ⟨r, hr⟩ : ∃ r, bld (k + 1) l = r := ⟨_, rfl⟩
        have HR : Hid (ofp (bld k) l = r) := Lib.hid hr
        have NO := Lib.hid (fun (h : r = false) w' => Bt.no (k := k + 1) (w := w) (w' := w') (at_ := i) (l := l) (by rw [hr, h]))
        have LE := Lib.hid hlen
        clear c2 hsn FS FB hat BA HA hle hen hr FR
        rw [hns] at e10
        obtain ⟨kk, ⟨x, t, a', qn, c', L'⟩, y, ⟨x2, t2, a2, q2, c2', L2⟩, lo, hi, s⟩ := nd
        simp only at e0 e1 e2 e3 e4 e5 e6 e7 e8 e9 e10 hns
        subst hns
        go_enter Tryz.func61, Tryz.ntmps61
        go_wp2_with fail
        clear e0 e1 e2 e3 e4 e5 e6 e7 e8 e9 e10
        go_loopw [11] (fun v11 W => ∃ (q m c : Nat) (A : Option Addr) (D : List (List Nd)), v11 = .int .i64 (q : Int) ∧ q ≤ en ∧ Hid (i + 1 ≤ q ∧ Bd k w W ⟨kk, ⟨x, t, a', qn, c', L'⟩, y, ⟨x2, t2, a2, q2, c2', L2⟩, lo, hi, (sn : Int)⟩ A m c D ∧ m ≤ q ∧ Sp (bld k) (frn l).tail (sub L q en) D)) (fun v11 _ => en - (intOf v11).toNat)
        case atStart => exact ⟨i + 1, 0, 0, none, [], by go_num, by have := EN.out; omega, Lib.hid ⟨Nat.le_refl _, BS.out, by omega, by rw [← FT.out]; exact S0.out⟩⟩
        case round =>
          obtain ⟨q, m, c, A, D, rfl, hq, H⟩ := hrel
          have Q1 := Lib.hid H.out.1
          have K1 := Lib.hid H.out.2.1
          have M1 := Lib.hid H.out.2.2.1
          have P1 := Lib.hid H.out.2.2.2
          clear H BS S0
          by_cases cq : q < en
          · have cq' : (q : Int) < (i : Int) + 1 + (sn : Int) := by have := CE.out; omega
            have I := Lib.hid (IH.out (some ⟨b, off, none⟩) n _ L wr q en (by omega) EB.out.1 (by have := EB.out.2.1; have := Q1.out; omega) (HP.out.below K1.out.bel))
            rw [CE.out] at I
            obtain ⟨R, hR⟩ : ∃ R, sub L q en = R := ⟨_, rfl⟩
            have RD := Lib.hid (show ∀ u, R.drop u = sub L (q + u) en from fun u => by rw [← hR, sub_drop])
            have RL := Lib.hid (show R.length = en - q by rw [← hR, sub_len L _ _ (by have := LE.out; have := EB.out; omega)])
            have RN := Lib.hid (show R ≠ [] from fun e => by have := RL.out; rw [e] at this; simp at this; omega)
            rw [hR] at I P1
            clear hR
            obtain ⟨z, hz0⟩ : ∃ z, bld k R = z := ⟨_, rfl⟩
            have HZ := Lib.hid hz0
            have I2 : Hid (Calls Tryz.prog 61 #[.slice (some ⟨b, off, none⟩) n _, .int .i64 (q : Int), .int .i64 ((i : Int) + 1 + (sn : Int))] wr fun e w' => ∃ nd A m C N, e = .returned (.tuple #[tOfT nd A m C, .int .i64 (N : Int), .bool z]) ∧ Hid (z = true → nd = R.headD nz ∧ m = (pts R).length ∧ N = ((q + (frn R).length : Nat) : Int) ∧ Trs k w' (fun b => wr.heap.size ≤ b ∧ b < w'.heap.size) A (pts R)) ∧ Below wr.heap.size wr w') := Lib.hid (I.out.mono (by
              rintro e w' ⟨⟨nd', A', m', C', N, e1, h2⟩, hb⟩
              rw [hz0] at e1 h2
              exact ⟨nd', A', m', C', N, e1, Lib.hid h2, hb⟩))
            clear hz0 I IH
            go_wp2_with fail
            refine I2.out.mono ?_
            rintro e w4 ⟨nd4, A4, m4, C4, N4, rfl, HT, hb⟩
            have K4 := Lib.hid (K1.out.next hb)
            cases z
            · have e1 : r = false := by
                rw [← HR.out]
                by_cases h0 : frn R = []
                · exact P1.out.none RN.out h0
                · exact P1.out.no RN.out h0 (by rw [bld_frn]; exact HZ.out)
              subst e1
              obtain ⟨⟨f0, f1, f2, f3, f4, f5, f6, f7, f8, f9, f10⟩, f11⟩ := K4.out.res.cells
              have lt4 := K4.out.res.lt
              have g0 := K4.out.res.free 0
              have g1 := K4.out.res.free 1
              have g2 := K4.out.res.free 2
              have g3 := K4.out.res.free 3
              have g4 := K4.out.res.free 4
              have g5 := K4.out.res.free 5
              have g6 := K4.out.res.free 6
              have g7 := K4.out.res.free 7
              have g8 := K4.out.res.free 8
              have g9 := K4.out.res.free 9
              have g10 := K4.out.res.free 10
              have g11 := K4.out.res.free 11
              go_wp2_with fail
              exact bodyPost_ret (v := .tuple #[tOfT nz none 0 0, .int .i64 0, .bool false]) (by simp [results, Tryz.results61, go_sem, *]) rfl ⟨NO.out (by first | rfl | trivial) _, by refine Below.alloc ?_ (by simp only [World.size_setCell]; exact K4.out.bel.size) _; (repeat (with_reducible refine Below.setCell ?_ (by exact Nat.le_refl _) _)); exact K4.out.bel⟩
            · obtain ⟨t1, t2', t3, t4⟩ := HT.out (by first | rfl | trivial)
              have FN2 : frn R ≠ [] := fun e => by have := bld_no (k := k) e; rw [HZ.out] at this; cases this
              have S2 := Lib.hid (P1.out.step RN.out FN2 (by rw [bld_frn]; exact HZ.out))
              have FL2 := frn_len R
              rw [RL.out] at FL2
              have HD2 := headD_frn FN2
              rw [← pts_frn] at t2' t4
              rw [HD2] at t1
              have FL3 : (frn R).length ≠ 0 := fun e => FN2 (List.eq_nil_of_length_eq_zero e)
              rw [RD.out] at S2
              obtain ⟨pl, hpl⟩ : ∃ pl, (frn R).length = pl := ⟨_, rfl⟩
              rw [hpl] at t3 FL2 FL3 S2
              have FL4 : Hid (pl ≤ en - q ∧ pl ≠ 0) := Lib.hid ⟨FL2, FL3⟩
              clear HD2 hpl RL RD FL2 FL3 FN2 RN P1
              generalize frn R = p at t1 t2' t4 S2
              subst t3
              have KN := Lib.hid (Kid.new K1.out.own K1.out.big C4 t4)
              rw [← t1, ← t2'] at KN
              clear t1 t2'
              have SZ4 : w.heap.size + 2 ≤ w4.heap.size := Nat.le_trans K1.out.big hb.size
              have HO6 : Hid (OwnQ k ((w4.alloc (tobjT nd4 A4 m4 C4)).alloc (tobjT nd4 A4 m4 C4)) (w.heap.size + 2) (.slice A m c) D) := Lib.hid (((K4.out.next (below_alloc _ _)).next (below_alloc _ _)).own)
              have H6 : Hid (((w4.alloc (tobjT nd4 A4 m4 C4)).alloc (tobjT nd4 A4 m4 C4)).heap[w4.heap.size + 1]? = some (tobjT nd4 A4 m4 C4)) := Lib.hid (by
                have := heap_alloc_new (w4.alloc (tobjT nd4 A4 m4 C4)) (tobjT nd4 A4 m4 C4)
                rwa [World.size_alloc] at this)
              have KD6 : Hid (Kid k ((w4.alloc (tobjT nd4 A4 m4 C4)).alloc (tobjT nd4 A4 m4 C4)) (w.heap.size + 2) (.slice A m c) p (nd4, A4, m4, C4)) :=
                Lib.hid (KN.out.mono (fun b _ hb2 _ => (below_go (below_alloc w4 _) (below_alloc _ _)).block b hb2) (by simp; omega))
              have K6 : Hid (Bd k w ((w4.alloc (tobjT nd4 A4 m4 C4)).alloc (tobjT nd4 A4 m4 C4)) ⟨kk, ⟨x, t, a', qn, c', L'⟩, y, ⟨x2, t2, a2, q2, c2', L2⟩, lo, hi, (sn : Int)⟩ A m c D) := Lib.hid ((K4.out.next (below_alloc _ _)).next (below_alloc _ _))
              have DL := Lib.hid (show D.length = m from K1.out.len)
              have M2 := Lib.hid (show m ≤ 1000 by have := M1.out; have := EB.out.2.2; have := EB.out.1; omega)
              have c11 := K4.out.box.cells.2
              have lt11 := K4.out.box.lt
              clear hb t4 HT KN K1 I2
              go_wp2_with (at_builtin; refine wp_appq (.tmp 63) (.tmp 65) _ (by rfl) (by rfl) k (w.heap.size + 2) _ D (by rfl) HO6.out (w4.heap.size + 1) (by rfl) p nd4 A4 m4 C4 H6.out KD6.out (by have := M2.out; have := DL.out; omega) (by simp; omega) (m + 1) (by rw [DL.out]) ?_; intro A7 c7 w7 hO7 hb7; have K7 := Lib.hid (K6.out.step hO7 hb7 (by rw [List.length_append, DL.out]; rfl)); have f7 := ((K6.out.box.below hb7 (by omega)).free 11); have lt7 := ((K6.out.box.below hb7 (by omega)).lt); have cc7 := ((K6.out.box.below hb7 (by omega)).cells.2))
              go_roundw
              case rel => exact ⟨q + pl, m + 1, c7, A7, D ++ [p], rfl, by have := FL4.out; omega, Lib.hid ⟨by have := Q1.out; omega, K7.out, by have := M1.out; have := FL4.out; omega, S2.out⟩⟩
              case measure => simp [intOf]; have := FL4.out; omega
          · obtain rfl : q = en := by omega
            have cq' : ¬ (q : Int) < (i : Int) + 1 + (sn : Int) := by have := CE.out; omega
            have PD := Lib.hid (by have := P1.out; rw [sub_nil L q q (Nat.le_refl _)] at this; exact this.done FN.out)
            obtain ⟨⟨f0, f1, f2, f3, f4, f5, f6, f7, f8, f9, f10⟩, f11⟩ := K1.out.box.cells
            obtain ⟨⟨j0, j1, j2, j3, j4, j5, j6, j7, j8, j9, j10⟩, j11⟩ := K1.out.res.cells
            have g0 := K1.out.res.free 0
            have g1 := K1.out.res.free 1
            have g2 := K1.out.res.free 2
            have g3 := K1.out.res.free 3
            have g4 := K1.out.res.free 4
            have g5 := K1.out.res.free 5
            have g6 := K1.out.res.free 6
            have g7 := K1.out.res.free 7
            have g8 := K1.out.res.free 8
            have g9 := K1.out.res.free 9
            have g10 := K1.out.res.free 10
            have g11 := K1.out.res.free 11
            have lt1 := K1.out.res.lt
            have lt2 := K1.out.box.lt
            have e1 : r = true := by rw [← HR.out]; exact PD.out.1
            subst e1
            obtain ⟨A9, c9, e9, T9⟩ := K1.out.own.form
            have DE : pts l = D := PD.out.2
            injection e9 with e91 e92 e93
            subst e91
            have T10 := Lib.hid T9
            have DE2 := Lib.hid DE
            have DL := Lib.hid K1.out.len
            have BE := Lib.hid K1.out.bel
            have SE := Lib.hid (show bld (k + 1) l = true from HR.out)
            clear e92 e93 T9 DE K1 PD HR NO
            go_wp2_with fail
            refine bodyPost_ret (v := .tuple #[tOfT ⟨kk, ⟨x, t, a', qn, c', L'⟩, y, ⟨x2, t2, a2, q2, c2', L2⟩, lo, hi, (sn : Int)⟩ A m c, .int .i64 (q : Int), .bool true]) (by simp [results, Tryz.results61, go_sem, *]) rfl ⟨⟨_, A, m, c, _, by rw [SE.out], fun _ => ⟨HD.out.symm, by rw [DE2.out, DL.out], by rw [FL.out], ?_⟩⟩, by (repeat (with_reducible refine Below.setCell ?_ (by exact Nat.le_refl _) _)); exact BE.out⟩
            rw [DE2.out]
            refine T10.out.same (fun b hb => ?_) (fun b hb => ⟨by omega, ?_⟩)
            · repeat (with_reducible refine Eq.trans (heap_setCell_other _ _ _ _ (by show b ≠ w.heap.size; have := hb.1; omega)) ?_)
              rfl
            · simp only [World.size_setCell]; exact hb.2
end Go.Proofs.YtpnllbojifnopaaGreatDoor

/- The document's Tree, Depth and Places of trees. -/
namespace Go.Proofs.YtpnllbojifnopaaGreatDoor
open Go Go.RowKit Pk Rl
set_option maxRecDepth 20000

theorem foldl_mem (F G : Int → List Nd → Int) (ps : List (List Nd)) (h : ∀ m, ∀ p ∈ ps, F m p = G m p) (m : Int) : ps.foldl F m = ps.foldl G m := by
  induction ps generalizing m with
  | nil => rfl
  | cons p ps ih => rw [List.foldl_cons, List.foldl_cons, h m p (by simp), ih (fun m q hq => h m q (by simp [hq]))]
theorem dpt_fuel (k : Nat) (l : List Nd) (h : l.length < k) : dpt (k + 1) l = dpt k l := by
  induction k generalizing l with
  | zero => omega
  | succ k ih =>
    show (pts l).foldl (fun m p => max m (1 + dpt (k + 1) p)) 0 = (pts l).foldl (fun m p => max m (1 + dpt k p)) 0
    exact foldl_mem _ _ _ (fun m p hp => by rw [ih p (by have := (pts_mem p hp).2.2.1; omega)]) _
theorem plT_fuel (k : Nat) (l : List Nd) (h : l.length < k) : plT (k + 1) l = plT k l := by
  induction k generalizing l with
  | zero => omega
  | succ k ih =>
    have e : (pts l).foldl (fun m p => wrap64 (m + plT (k + 1) p)) 0 = (pts l).foldl (fun m p => wrap64 (m + plT k p)) 0 :=
      foldl_mem _ _ _ (fun m p hp => by rw [ih p (by have := (pts_mem p hp).2.2.1; omega)]) _
    rw [plT, plT, e]
theorem all_mem (F G : List Nd → Bool) (ps : List (List Nd)) (h : ∀ p ∈ ps, F p = G p) : ps.all F = ps.all G := by
  induction ps with
  | nil => rfl
  | cons p ps ih => rw [List.all_cons, List.all_cons, h p (by simp), ih (fun q hq => h q (by simp [hq]))]
theorem fmT_fuel (k : Nat) (l : List Nd) (h : l.length < k) : fmT (k + 1) l = fmT k l := by
  induction k generalizing l with
  | zero => omega
  | succ k ih =>
    rw [fmT, fmT, all_mem (fmT (k + 1)) (fmT k) (pts l) (fun p hp => ih p (by have := (pts_mem p hp).2.2.1; omega))]
/- what Tree answers -/
def TR (k : Nat) (w : World) (n : Nat) (L : List Nd) (e : Ending) (w' : World) : Prop :=
  ∃ nd A m C, e = .returned (.tuple #[tOfT nd A m C, .bool (bld k L && decide ((frn L).length = n))]) ∧
    (bld k L = true → nd = L.headD nz ∧ m = (pts L).length ∧ Trs k w' (fun b => w.heap.size ≤ b ∧ b < w'.heap.size) A (pts L)) ∧ Below w.heap.size w w'
set_option maxHeartbeats 2000000 in
theorem rtree_any (k : Nat) (a : Option Addr) (n c : Nat) (L : List Nd) (w : World) (hk : n < k) (hP : Pt w a n c L) :
    Calls Tryz.prog 22 #[.slice a n c] w (TR k w n L) := by
  have B0 := Lib.hid (below_alloc w (tobjT nz none 0 0))
  have I := Lib.hid (build_any k a n c L (w.alloc (tobjT nz none 0 0)) 0 n (by omega) (Nat.le_refl _) (by omega) (hP.below B0.out))
  have e0 : sub L 0 n = L := by unfold sub; rw [List.drop_zero, List.take_of_length_le (by rw [hP.len]; exact Nat.le_refl _)]
  rw [e0] at I
  have R0 := Lib.hid (Trb.start w nz none 0 0)
  obtain ⟨z, hz0⟩ : ∃ z, bld k L = z := ⟨_, rfl⟩
  obtain ⟨q, hq⟩ : ∃ q, (frn L).length = q := ⟨_, rfl⟩
  have I2 : Hid (Calls Tryz.prog 61 #[.slice a n c, .int .i64 0, .int .i64 (n : Int)] (w.alloc (tobjT nz none 0 0)) fun e w' => ∃ nd A m C N, e = .returned (.tuple #[tOfT nd A m C, .int .i64 (N : Int), .bool z]) ∧ Hid (z = true → nd = L.headD nz ∧ m = (pts L).length ∧ N = (q : Int) ∧ Trs k w' (fun b => w.heap.size + 1 ≤ b ∧ b < w'.heap.size) A (pts L)) ∧ Below (w.alloc (tobjT nz none 0 0)).heap.size (w.alloc (tobjT nz none 0 0)) w') := Lib.hid (I.out.mono (by
    rintro e w' ⟨⟨nd', A', m', C', N, e1, h2⟩, hb⟩
    rw [hz0] at e1 h2
    refine ⟨nd', A', m', C', N, e1, Lib.hid (fun hzt => ?_), hb⟩
    obtain ⟨g1, g2, g3, g4⟩ := h2 hzt
    refine ⟨g1, g2, by rw [g3, hq]; omega, g4.same (fun _ _ => rfl) (fun b hb => ⟨?_, hb.2⟩)⟩
    have := hb.1
    rw [World.size_alloc] at this
    exact this))
  have NO : Hid (z = false → ∀ nd A m C w', Below w.heap.size w w' → TR k w n L (.returned (.tuple #[tOfT nd A m C, .bool false])) w') := Lib.hid fun h nd A m C w' hb => ⟨nd, A, m, C, by rw [hz0, h]; rfl, fun h2 => by (rw [hz0, h] at h2; cases h2), hb⟩
  have YES : Hid (z = true → ∀ nd A m C w', nd = L.headD nz → m = (pts L).length → Trs k w' (fun b => w.heap.size ≤ b ∧ b < w'.heap.size) A (pts L) → Below w.heap.size w w' → TR k w n L (.returned (.tuple #[tOfT nd A m C, .bool ((q : Int) == (n : Int))])) w') := Lib.hid fun h nd A m C w' g1 g2 g3 hb =>
    ⟨nd, A, m, C, by rw [hz0, h, hq, show ((q : Int) == (n : Int)) = decide (q = n) by rw [Bool.eq_iff_iff]; simp; omega]; rfl, fun _ => ⟨g1, g2, g3⟩, hb⟩
  clear I hP e0 hz0 hq
  go_enter Tryz.func22, Tryz.ntmps22
  go_wp2_with fail
  refine I2.out.mono ?_
  rintro e w4 ⟨nd4, A4, m4, C4, N4, rfl, HT, hb⟩
  have B4 := Lib.hid (below_go B0.out hb)
  have RB := R0.out.below hb (by simp)
  obtain ⟨⟨f0, f1, f2, f3, f4, f5, f6, f7, f8, f9, f10⟩, f11⟩ := RB.cells
  have lt4 := RB.lt
  have g0 := RB.free 0
  have g1 := RB.free 1
  have g2 := RB.free 2
  have g3 := RB.free 3
  have g4 := RB.free 4
  have g5 := RB.free 5
  have g6 := RB.free 6
  have g7 := RB.free 7
  have g8 := RB.free 8
  have g9 := RB.free 9
  have g10 := RB.free 10
  have g11 := RB.free 11
  clear RB R0 I2 hb
  cases z
  · go_wp2_with fail
    exact bodyPost_ret (v := .tuple #[tOfT nd4 A4 m4 C4, .bool false]) (by simp [results, Tryz.results22, go_sem, *]) rfl (NO.out (by first | rfl | trivial) _ _ _ _ _ (by refine Below.alloc ?_ (by simp only [World.size_setCell]; exact B4.out.size) _; (repeat (with_reducible refine Below.setCell ?_ (by exact Nat.le_refl _) _)); exact B4.out))
  · obtain ⟨t1, t2, t3, t4⟩ := HT.out (by first | rfl | trivial)
    subst t3
    have H1 := Lib.hid t1
    have H2 := Lib.hid t2
    have H4 := Lib.hid t4
    clear t1 t2 t4 HT
    go_wp2_with fail
    refine bodyPost_ret (v := .tuple #[tOfT nd4 A4 m4 C4, .bool ((q : Int) == (n : Int))]) (by simp [results, Tryz.results22, go_sem, *]) rfl (YES.out (by first | rfl | trivial) _ _ _ _ _ H1.out H2.out (H4.out.same (fun b hb => ?_) (fun b hb => ⟨by have := hb.1; omega, by simp; have := hb.2; omega⟩)) (by refine Below.alloc ?_ (by simp only [World.size_setCell]; exact B4.out.size) _; (repeat (with_reducible refine Below.setCell ?_ (by exact Nat.le_refl _) _)); exact B4.out))
    refine Eq.trans (heap_alloc_old _ _ (by simp only [World.size_setCell]; exact hb.2)) ?_
    repeat (with_reducible refine Eq.trans (heap_setCell_other _ _ _ _ (by show b ≠ w.heap.size; have := hb.1; omega)) ?_)
    rfl
end Go.Proofs.YtpnllbojifnopaaGreatDoor
