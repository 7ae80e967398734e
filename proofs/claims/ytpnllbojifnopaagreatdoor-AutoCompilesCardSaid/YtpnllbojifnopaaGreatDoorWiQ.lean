/- The document's Compile: what is kept while edges are gone through. -/
import Derived.Test.YtpnllbojifnopaaGreatDoorWJ
import Derived.Test.YtpnllbojifnopaaGreatDoorAuY
namespace Go.Proofs.YtpnllbojifnopaaGreatDoor
open Go Go.RowKit Pk Rl
set_option maxRecDepth 20000

theorem wp_appe {ops : Array Oper} {rest : List Oper} {o : Oper} {a : Act} {Q : Exit → Act → World → Prop} (s x : Operand) (w : World) (hgd : o.guard = none)
    (hop : o.op = .call { callee := .builtin .append, args := #[s, x], argTypes := #[34, 34] })
    (B : Nat) (v : Value) (D : List Ed) (hs : a.eval s = v) (ho : OwnE w B v D) (g cc : Nat) (d : Ed) (hx : a.eval x = .slice (some ⟨g, 0, none⟩) 1 cc) (hc : ∀ j u, (ecl d)[j]? = some u → w.cell? ⟨g, j, none⟩ = some u)
    (k : Nat) (hk : D.length + 1 = k) (hlen : k ≤ 1000000) (hB : B ≤ w.heap.size)
    (h : ∀ A' c' w', OwnE w' B (.slice A' k c') (D ++ [d]) → Below B w w' → wpList Tryz.prog ops Q rest (a.put o.dst (.slice A' k c')) w') : wpList Tryz.prog ops Q (o :: rest) a w := by
  refine wpList_plain hgd fun K hK => ?_
  obtain ⟨A', c', w', hrun, h2, _, h3⟩ := run_appe w B o.type v D ho g d cc hc (by omega) hB
  rw [hk] at h2 hrun
  unfold Oper.wp
  simp [execOp, hop, resolve, invoke, builtin, hs, hx, hrun, Result.andThen]
  exact hK _ _ (h A' c' w' h2 h3)
/- the nodes of edges, and the questions of places, are the pattern's -/
theorem hd_in {l : List Nd} (h : l ≠ []) : l.headD nz ∈ l := by
  obtain ⟨v, r, rfl⟩ := List.exists_cons_of_ne_nil h
  exact List.mem_cons_self ..
theorem we_in (k : Nat) : ∀ l : List Nd, fmd k l = true → ∀ n f t x, we k l n f t = some x → x ∈ l := by
  induction k with
  | zero => intro l h; cases h
  | succ k ih =>
    intro l h n f t x hx
    rcases kw_of h with ⟨h1, _⟩ | ⟨h1, K⟩
    · unfold we at hx
      rw [if_pos h1] at hx
      cases hx
    · unfold we at hx
      rw [if_neg h1] at hx
      obtain ⟨j, hj, e⟩ := find_some hx
      have hj' : j < (wps l).length := by rw [bs_len] at hj; exact hj
      obtain ⟨g1, _, _⟩ := bs_get (cnt k) (wps l) n j hj'
      rw [Option.or_eq_some_iff] at e
      rcases e with e | ⟨_, e⟩
      · exact (pts_mem _ (wps_mem g1)).2.2.2 x (ih _ (K.sub _ g1).1 _ f t x e)
      · split at e
        · injection e with e
          rw [← e]
          exact hd_in (fmd_ne h)
        · cases e
theorem wqq_in (k : Nat) : ∀ l : List Nd, fmd k l = true → ∀ q ∈ wqq k l, ∃ v ∈ l, v.p = q := by
  induction k with
  | zero => intro l h; cases h
  | succ k ih =>
    intro l h q hq
    have e : wqq (k + 1) l = if (l.headD nz).k = 1 then [(l.headD nz).p] else (wps l).flatMap (wqq k) := rfl
    rw [e] at hq
    rcases kw_of h with ⟨h1, _⟩ | ⟨h1, K⟩
    · rw [if_pos h1, List.mem_singleton] at hq
      exact ⟨_, hd_in (fmd_ne h), hq.symm⟩
    · rw [if_neg h1] at hq
      obtain ⟨p, hp, hq⟩ := List.mem_flatMap.1 hq
      obtain ⟨v, hv, e2⟩ := ih p (K.sub p hp).1 q hq
      exact ⟨v, (pts_mem _ (wps_mem hp)).2.2.2 v hv, e2⟩
theorem Trs.less {k : Nat} : ∀ {ps : List (List Nd)} {w : World} {F : Nat → Prop} {a : Option Addr}, (∀ p ∈ ps, fmd k p = true) → Trs (k + 1) w F a ps → Trs k w F a ps := by
  induction k with
  | zero =>
    intro ps w F a hp h
    rcases ps with _ | ⟨p, ps⟩
    · exact Trs.nil _ _ _ _
    · have := hp p (List.mem_cons_self ..)
      cases this
  | succ k ih =>
    intro ps w F a hp h i hi
    obtain ⟨b, off, A', C', ha, hF, hat, hc, hk2⟩ := h i hi
    refine ⟨b, off, A', C', ha, hF, hat, hc, ih (fun p hpp => ?_) hk2⟩
    have hf := hp _ (lpgetD_mem ps i hi)
    unfold fmd at hf
    rw [Bool.and_eq_true] at hf
    obtain ⟨x, q, qs, _, _, h3, h4⟩ := ofp_spl hf.1
    exact List.all_eq_true.1 h4 p (by rw [← h3]; exact hpp)
/- rows of edges, so far -/
def wedp (k : Nat) (l : List Nd) (m i t : Nat) : List EV := (List.range i).flatMap (wrow k l m) ++ (List.range t).filterMap fun t => (we k l 0 i t).map (gv i t)
theorem wedp_no {k : Nat} {l : List Nd} {m i t : Nat} (h : we k l 0 i t = none) : wedp k l m i (t + 1) = wedp k l m i t := by
  unfold wedp
  rw [List.range_succ, List.filterMap_append]
  simp [h]
theorem wedp_yes {k : Nat} {l : List Nd} {m i t : Nat} {x : Nd} (h : we k l 0 i t = some x) : wedp k l m i (t + 1) = wedp k l m i t ++ [gv i t x] := by
  unfold wedp
  rw [List.range_succ, List.filterMap_append, List.append_assoc]
  simp [h]
theorem wedp_turn (k : Nat) (l : List Nd) (m i : Nat) : wedp k l m i m = wedp k l m (i + 1) 0 := by
  unfold wedp
  rw [List.range_succ (n := i), List.flatMap_append]
  simp [wrow]
theorem wedp_end (k : Nat) (l : List Nd) (m : Nat) : wedp k l m m 0 = wed k l m := by
  unfold wedp wed
  simp
theorem filterMap_len {α β : Type} (f : α → Option β) (l : List α) : (l.filterMap f).length ≤ l.length := List.length_filterMap_le f l
theorem wedp_len (k : Nat) (l : List Nd) (m i t : Nat) : (wedp k l m i t).length ≤ i * m + t := by
  unfold wedp
  rw [List.length_append]
  have h1 : ((List.range t).filterMap fun t => (we k l 0 i t).map (gv i t)).length ≤ t := by
    have := filterMap_len (fun t => (we k l 0 i t).map (gv i t)) (List.range t)
    rwa [List.length_range] at this
  have h2 : ((List.range i).flatMap (wrow k l m)).length ≤ i * m := by
    clear h1
    induction i with
    | zero => simp
    | succ i ih =>
      rw [List.range_succ, List.flatMap_append, List.length_append, Nat.succ_mul]
      have h3 : (wrow k l m i).length ≤ m := by
        have := filterMap_len (fun t => (we k l 0 i t).map (gv i t)) (List.range m)
        rwa [List.length_range] at this
      simp only [List.flatMap_cons, List.flatMap_nil, List.append_nil]
      omega
  omega
/- while it is made -/
structure Qx (w W : World) (k : Nat) (L : List Nd) (nd : Nd) (pl g7 g9 : Nat) (A : Option Addr) (M C : Nat) (Ap : Option Addr) (kp cp a b : Nat) (Ae : Option Addr) (ke ce : Nat) (Es : List Ed) : Prop where
  wb : Wdb W g7 nd pl A M C
  tr : Wds k W (fun x => x < g9) A (wch k (L, 0))
  ab : AB W g9 Ap kp cp (a : Int) (b : Int) Ae ke ce
  re : OwnE W (g9 + 1) (.slice Ae ke ce) Es
  le : Es.length = ke
  pq : OwnQ' W w.heap.size (.slice Ap kp cp) (wqq (k + 1) L)
  pb : ∀ g, (Value.slice Ap kp cp).ownBlock = some g → g < g9
  res : AB W (w.heap.size + 1) none 0 0 0 0 none 0 0
  bel : Below w.heap.size w W
  o7 : w.heap.size + 1 < g7
  o9 : g7 < g9
  big : g9 < W.heap.size
section
variable {w W W' : World} {k : Nat} {L : List Nd} {nd : Nd} {pl g7 g9 : Nat} {A : Option Addr} {M C : Nat} {Ap : Option Addr} {kp cp a b : Nat} {Ae : Option Addr} {ke ce : Nat} {Es : List Ed}
theorem Qx.keep (h : Qx w W k L nd pl g7 g9 A M C Ap kp cp a b Ae ke ce Es) (hb : Below (g9 + 1) W W') {Ae' : Option Addr} {ke' ce' : Nat} {Es' : List Ed} (hO : OwnE W' (g9 + 1) (.slice Ae' ke' ce') Es') (hl : Es'.length = ke') : Qx w (W'.setCell ⟨g9, 3, none⟩ (.slice Ae' ke' ce')) k L nd pl g7 g9 A M C Ap kp cp a b Ae' ke' ce' Es' := by
  have o7 := h.o7
  have o9 := h.o9
  have hold : ∀ x, x < g9 → (W'.setCell ⟨g9, 3, none⟩ (.slice Ae' ke' ce')).heap[x]? = W.heap[x]? := fun x hx => by
    rw [heap_setCell_other W' ⟨g9, 3, none⟩ x _ (by show x ≠ g9; omega), hb.block x (by omega)]
  have h9 : W'.heap[g9]? = _ := (hb.block g9 (by omega)).trans h.ab
  refine ⟨?_, h.tr.same (fun x hx => hold x hx) (fun _ hx => hx), ?_, row_same hO (fun g cur hg hh => ?_), hl, row_same h.pq (fun g cur hg hh => by rw [hold g (h.pb g hg)]; exact hh), h.pb, ?_, ?_, h.o7, h.o9, by rw [World.size_setCell]; exact Nat.lt_of_lt_of_le h.big hb.size⟩
  · unfold Wdb; rw [hold g7 o9]; exact h.wb
  · unfold AB; rw [heap_setCell_same W' g9 3 _ _ _ h9]; rfl
  · rw [heap_setCell_other W' ⟨g9, 3, none⟩ g _ (by have := (World.ownsRow.lt hO g hg).1; show g ≠ g9; omega)]; exact hh
  · unfold AB; rw [hold _ (by omega)]; exact h.res
  · exact (h.bel.trans (hb.mono (by omega))).setCell (p := ⟨g9, 3, none⟩) (by show w.heap.size ≤ g9; omega) _
theorem Qx.next (h : Qx w W k L nd pl g7 g9 A M C Ap kp cp a b Ae ke ce Es) (hb : Below W.heap.size W W') : Qx w W' k L nd pl g7 g9 A M C Ap kp cp a b Ae ke ce Es := by
  have hbg := h.big
  have o7 := h.o7
  have o9 := h.o9
  have hold : ∀ x, x < W.heap.size → W'.heap[x]? = W.heap[x]? := fun x hx => hb.block x hx
  refine ⟨h.wb.below hb (by omega), h.tr.same (fun x hx => hold x (by omega)) (fun _ hx => hx), h.ab.below hb hbg, row_same h.re (fun g cur hg hh => by rw [hold g (Array.getElem?_eq_some_iff.1 hh).1]; exact hh), h.le, row_same h.pq (fun g cur hg hh => by rw [hold g (Array.getElem?_eq_some_iff.1 hh).1]; exact hh), h.pb, h.res.below hb (by omega), below_go h.bel hb, h.o7, h.o9, Nat.lt_of_lt_of_le hbg hb.size⟩
theorem Qx.set1 (h : Qx w W k L nd pl g7 g9 A M C Ap kp cp a b Ae ke ce Es) (a' : Nat) : Qx w (W.setCell ⟨g9, 1, none⟩ (.int .u32 (a' : Int))) k L nd pl g7 g9 A M C Ap kp cp a' b Ae ke ce Es := by
  have o7 := h.o7
  have o9 := h.o9
  have hold : ∀ x, x ≠ g9 → (W.setCell ⟨g9, 1, none⟩ (.int .u32 (a' : Int))).heap[x]? = W.heap[x]? := fun x hx => heap_setCell_other W ⟨g9, 1, none⟩ x _ hx
  refine ⟨?_, h.tr.same (fun x hx => hold x (by omega)) (fun _ hx => hx), ?_, row_same h.re (fun g cur hg hh => by rw [hold g (by have := (World.ownsRow.lt h.re g hg).1; omega)]; exact hh), h.le, row_same h.pq (fun g cur hg hh => by rw [hold g (by have := h.pb g hg; omega)]; exact hh), h.pb, ?_, h.bel.setCell (p := ⟨g9, 1, none⟩) (by show w.heap.size ≤ g9; omega) _, h.o7, h.o9, by rw [World.size_setCell]; exact h.big⟩
  · unfold Wdb; rw [hold g7 (by omega)]; exact h.wb
  · unfold AB; rw [heap_setCell_same W g9 1 _ _ _ h.ab]; rfl
  · unfold AB; rw [hold _ (by omega)]; exact h.res
theorem Qx.set2 (h : Qx w W k L nd pl g7 g9 A M C Ap kp cp a b Ae ke ce Es) (b' : Nat) : Qx w (W.setCell ⟨g9, 2, none⟩ (.int .u32 (b' : Int))) k L nd pl g7 g9 A M C Ap kp cp a b' Ae ke ce Es := by
  have o7 := h.o7
  have o9 := h.o9
  have hold : ∀ x, x ≠ g9 → (W.setCell ⟨g9, 2, none⟩ (.int .u32 (b' : Int))).heap[x]? = W.heap[x]? := fun x hx => heap_setCell_other W ⟨g9, 2, none⟩ x _ hx
  refine ⟨?_, h.tr.same (fun x hx => hold x (by omega)) (fun _ hx => hx), ?_, row_same h.re (fun g cur hg hh => by rw [hold g (by have := (World.ownsRow.lt h.re g hg).1; omega)]; exact hh), h.le, row_same h.pq (fun g cur hg hh => by rw [hold g (by have := h.pb g hg; omega)]; exact hh), h.pb, ?_, h.bel.setCell (p := ⟨g9, 2, none⟩) (by show w.heap.size ≤ g9; omega) _, h.o7, h.o9, by rw [World.size_setCell]; exact h.big⟩
  · unfold Wdb; rw [hold g7 (by omega)]; exact h.wb
  · unfold AB; rw [heap_setCell_same W g9 2 _ _ _ h.ab]; rfl
  · unfold AB; rw [hold _ (by omega)]; exact h.res
end
/- what the document's Compile answers of a pattern that may be -/
def DcA (L : List Nd) (n : Nat) (w : World) (e : Ending) (w' : World) : Prop := ∃ Ap kp cp Ae ke ce Es, e = .returned (.tuple #[autv Ap kp cp (sbt (wf 33 L 0) n) (sbt (wl 33 L 0) n) Ae ke ce, .int .i64 0]) ∧
  OwnQ' w' w.heap.size (.slice Ap kp cp) (wqq 33 L) ∧ (wqq 33 L).length = kp ∧ OwnE w' w.heap.size (.slice Ae ke ce) Es ∧ Es.length = ke ∧ Es.map ve = wed 33 L n ∧ (∀ d ∈ Es, Qok w d.g) ∧ Below w.heap.size w w'
def DcX (L : List Nd) (n : Nat) (w : World) (e : Ending) (w' : World) : Prop := (64 < (wed 33 L n).length ∧ CoN 12 w e w') ∨ ((wed 33 L n).length ≤ 64 ∧ DcA L n w e w')
end Go.Proofs.YtpnllbojifnopaaGreatDoor
