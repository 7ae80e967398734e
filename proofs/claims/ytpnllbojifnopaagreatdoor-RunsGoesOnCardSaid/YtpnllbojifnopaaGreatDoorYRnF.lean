/- Feed. -/
import Derived.Test.YtpnllbojifnopaaGreatDoorYRnE
namespace Go.Proofs.YtpnllbojifnopaaGreatDoor
open Go Go.RowKit Go.Maps Pk Rl
set_option maxRecDepth 20000
def EnB (W : World) (d : Nat) (e : En) : Prop := W.heap[d]? = some (enobj e)
theorem EnB.cells {W : World} {d : Nat} {e : En} (h : EnB W d e) : W.cell? ⟨d, 0, none⟩ = some (.slice e.Ap e.kp e.cp) ∧ W.cell? ⟨d, 1, none⟩ = some (.int .u32 (e.a : Int)) ∧ W.cell? ⟨d, 2, none⟩ = some (.int .u32 (e.b : Int)) ∧ W.cell? ⟨d, 3, none⟩ = some (.slice e.Ae e.ke e.ce) ∧ W.cell? ⟨d, 4, none⟩ = some (.int .u64 (e.win : Int)) ∧ W.cell? ⟨d, 5, none⟩ = some (.int .u64 (e.next : Int)) ∧ W.cell? ⟨d, 6, none⟩ = some (.int .u64 (e.last : Int)) ∧ W.cell? ⟨d, 7, none⟩ = some (.bool e.fl) ∧ W.cell? ⟨d, 8, none⟩ = some (.int .u64 (e.fat : Int)) ∧ W.cell? ⟨d, 9, none⟩ = some (.slice e.Ar e.nr e.cr) ∧ ∀ j, W.frozen? ⟨d, j, none⟩ = false := by
  refine ⟨?_, ?_, ?_, ?_, ?_, ?_, ?_, ?_, ?_, ?_, fun j => by simp [World.frozen?, show W.heap[d]? = some (enobj e) from h]⟩ <;> (rw [cell_of_row W d _ _ _ _ h]; rfl)
theorem EnB.lt {W : World} {d : Nat} {e : En} (h : EnB W d e) : d < W.heap.size := (Array.getElem?_eq_some_iff.1 h).1
theorem EnB.below {W W' : World} {d : Nat} {e : En} (h : EnB W d e) (hb : Below W.heap.size W W') : EnB W' d e := (hb.block d h.lt).trans h
structure Enw (w : World) (d : Nat) (e : En) (Ps : List Qu) (Es : List Ed) (R : List Ru) : Prop where
  eb : EnB w d e
  cr : Cr w e.Ap e.kp e.Ae e.ke Ps Es
  kp : e.kp ≤ 32
  ke : e.ke ≤ 64
  a : e.a < 4294967296
  b : e.b < 4294967296
  win : e.win < 18446744073709551616
  ef : ∀ x ∈ Es, x.f < 32 ∧ x.t < 32
  next : e.next ≤ 1099511627776
  last : e.last ≤ 1099511627776
  r : Rus w e.Ar R
  n : R.length = e.nr
  few : e.nr ≤ 64
  x : ∀ r ∈ R, r.x < 18446744073709551616 ∧ r.t ≤ e.last
theorem Enw.below {w w' : World} {d : Nat} {e : En} {Ps : List Qu} {Es : List Ed} {R : List Ru} (h : Enw w d e Ps Es R) (hb : Below w.heap.size w w') : Enw w' d e Ps Es R :=
  ⟨h.eb.below hb, h.cr.below hb, h.kp, h.ke, h.a, h.b, h.win, h.ef, h.next, h.last, h.r.below hb, h.n, h.few, h.x⟩
theorem Enw.fe {w : World} {d : Nat} {e : En} {Ps : List Qu} {Es : List Ed} {R : List Ru} (h : Enw w d e Ps Es R) {l : Lg} (hl : e.last ≤ l.at_) (hT : Tab w) (hk : Lok w l) : Fe w d e.Ap e.kp e.cp e.a e.b e.Ae e.ke e.ce e.win e.next e.Ar e.nr e.cr Ps Es R l := by
  obtain ⟨c0, c1, c2, c3, c4, c5, c6, c7, c8, c9, _⟩ := h.eb.cells
  exact ⟨⟨c0, c1, c2, c3, c4, h.cr, h.kp, h.ke, h.a, h.b, h.ef⟩, c5, c9, h.r, h.n, h.few, fun r hr => ⟨(h.x r hr).1, by have := (h.x r hr).2; omega⟩, hT, hk⟩
def fcode (e : En) (l : Lg) : Int := if e.fl = true then 10 else if e.next = 1099511627776 then 5 else if l.at_ < e.last ∨ 1099511627776 < l.at_ ∨ emay l.E = false then 1 else 0
def FnX (m : Int) (w : World) (e : Ending) (w' : World) : Prop := e = .returned (.tuple #[nsl, .int .i64 m]) ∧ Below w.heap.size w w'
set_option maxHeartbeats 8000000 in
theorem feed_no (d : Nat) (e : En) (Ps : List Qu) (Es : List Ed) (R : List Ru) (l : Lg) (w : World) (h : Enw w d e Ps Es R) (hl : Lok w l) (hm : e.fl = true ∨ e.next = 1099511627776) :
    Calls Tryz.prog 28 #[.pointer (some ⟨d, 0, none⟩), lval l] w fun en w' => FnX (fcode e l) w en w' := by
  have nb := below_alloc w (lobj l)
  have NB := Lib.hid nb
  have E1 := Lib.hid (h.eb.below nb)
  have L1 := Lib.hid (hl.ck (Ck.of_below nb))
  obtain ⟨c0, c1, c2, c3, c4, c5, c6, c7, c8, c9, cf⟩ := E1.out.cells
  have hN := heap_alloc_new w (lobj l)
  have l2 : (w.alloc (lobj l)).cell? ⟨w.heap.size, 2, none⟩ = some (.int .u64 (l.at_ : Int)) := by rw [cell_of_row _ _ _ _ _ _ hN]; rfl
  have l3 : (w.alloc (lobj l)).cell? ⟨w.heap.size, 3, none⟩ = some (.int .u8 l.t) := by rw [cell_of_row _ _ _ _ _ _ hN]; rfl
  have l4 : (w.alloc (lobj l)).cell? ⟨w.heap.size, 4, none⟩ = some (.slice l.a l.n l.c) := by rw [cell_of_row _ _ _ _ _ _ hN]; rfl
  have MC := Lib.hid (fun W (h : Lok W l) => emay_any l.t l.a l.n l.c l.E W h.len h.few h.row h.ok)
  obtain ⟨Ap, kp, cp, a, b, Ae, ke, ce, win, next, last, fl, fat, Ar, nr, cr⟩ := e
  simp only at c0 c1 c2 c3 c4 c5 c6 c7 c8 c9
  unfold fcode
  simp only at hm ⊢
  clear nb hN h hl c0 c1 c2 c3 c4 c8 c9 cf
  cases fl
  · simp only [Bool.false_eq_true, if_false, false_or] at hm ⊢
    by_cases hn : next = 1099511627776
    · subst hn
      rw [if_pos rfl]
      clear hm
      go_enter Tryz.func28, Tryz.ntmps28
      go_upto_region 1 with fail
      generalize w.alloc (.cells #[.int .u32 l.pub, .int .u64 l.seq, .int .u64 (l.at_ : Int), .int .u8 l.t, .slice l.a l.n l.c] 81) = w1 at NB c5 c7 ⊢
      go_wp2_with fail
      exact bodyPost_ret (results_tmp2 rfl _ _ _) rfl ⟨rfl, NB.out⟩
    · exact absurd hm (by simp [hn])
  · simp only [if_true]
    clear hm
    go_enter Tryz.func28, Tryz.ntmps28
    go_upto_region 1 with fail
    generalize w.alloc (.cells #[.int .u32 l.pub, .int .u64 l.seq, .int .u64 (l.at_ : Int), .int .u8 l.t, .slice l.a l.n l.c] 81) = w1 at NB c5 c7 ⊢
    go_wp2_with fail
    exact bodyPost_ret (results_tmp2 rfl _ _ _) rfl ⟨rfl, NB.out⟩
structure Ff (w W : World) (d : Nat) (e : En) (Ps : List Qu) (Es : List Ed) (R : List Ru) (l : Lg) : Prop where
  ew : Enw W d e Ps Es R
  bel : Below w.heap.size w W
  tab : Tab W
  lk : Lok W l
  far : d < w.heap.size
  l : W.heap[w.heap.size]? = some (lobj l)
theorem Ff.next {w W W' : World} {d : Nat} {e : En} {Ps : List Qu} {Es : List Ed} {R : List Ru} {l : Lg} (h : Ff w W d e Ps Es R l) (hb : Below W.heap.size W W') : Ff w W' d e Ps Es R l :=
  ⟨h.ew.below hb, below_go h.bel hb, h.tab.below hb, h.lk.ck (Ck.of_below hb), h.far, (hb.block _ (Array.getElem?_eq_some_iff.1 h.l).1).trans h.l⟩
theorem Ff.start {w : World} {d : Nat} {e : En} {Ps : List Qu} {Es : List Ed} {R : List Ru} {l : Lg} (h : Enw w d e Ps Es R) (hT : Tab w) (hl : Lok w l) : Ff w (w.alloc (lobj l)) d e Ps Es R l :=
  ⟨h.below (below_alloc _ _), below_alloc _ _, hT.below (below_alloc _ _), hl.ck (Ck.of_below (below_alloc _ _)), h.eb.lt, heap_alloc_new _ _⟩
theorem Ff.cl {w W : World} {d : Nat} {e : En} {Ps : List Qu} {Es : List Ed} {R : List Ru} {l : Lg} (h : Ff w W d e Ps Es R l) : W.cell? ⟨w.heap.size, 2, none⟩ = some (.int .u64 (l.at_ : Int)) ∧ W.cell? ⟨w.heap.size, 3, none⟩ = some (.int .u8 l.t) ∧ W.cell? ⟨w.heap.size, 4, none⟩ = some (.slice l.a l.n l.c) := by
  refine ⟨?_, ?_, ?_⟩ <;> (rw [cell_of_row W _ _ _ _ _ h.l]; rfl)
theorem ff_next {w W W' : World} {d : Nat} {e : En} {last : Nat} {Ps : List Qu} {Es : List Ed} {R : List Ru} {l : Lg} (h : W.cell? ⟨w.heap.size, 2, none⟩ = some (.int .u64 (l.at_ : Int)) ∧ W.cell? ⟨w.heap.size, 3, none⟩ = some (.int .u8 l.t) ∧ W.cell? ⟨w.heap.size, 4, none⟩ = some (.slice l.a l.n l.c) ∧ W.cell? ⟨d, 6, none⟩ = some (.int .u64 (last : Int)) ∧ Hid (Ff w W d e Ps Es R l)) (hb : Below W.heap.size W W') :
    W'.cell? ⟨w.heap.size, 2, none⟩ = some (.int .u64 (l.at_ : Int)) ∧ W'.cell? ⟨w.heap.size, 3, none⟩ = some (.int .u8 l.t) ∧ W'.cell? ⟨w.heap.size, 4, none⟩ = some (.slice l.a l.n l.c) ∧ W'.cell? ⟨d, 6, none⟩ = some (.int .u64 (last : Int)) ∧ Hid (Ff w W' d e Ps Es R l) := by
  have k : ∀ {p v}, W.cell? p = some v → W'.cell? p = some v := fun hc => (hb.cell (World.block_lt_of_cell? _ _ hc)).trans hc
  exact ⟨k h.1, k h.2.1, k h.2.2.1, k h.2.2.2.1, Lib.hid (h.2.2.2.2.out.next hb)⟩
theorem keep_cell {w W : World} {d : Nat} (h : Keep (· = d) w W) (j : Nat) (v : Value) : Keep (· = d) w (W.setCell ⟨d, j, none⟩ v) :=
  ⟨h.os, h.tape, h.output, by rw [World.size_setCell]; exact h.size, fun k hk hne => by rw [heap_setCell_other W ⟨d, j, none⟩ k v hne]; exact h.block k hk hne⟩
theorem EnB.reset {W : World} {d : Nat} {e : En} (h : EnB W d e) (next at_ : Nat) : EnB (((((W.setCell ⟨d, 5, none⟩ (.int .u64 ((next : Int) + 1))).setCell ⟨d, 6, none⟩ (.int .u64 (at_ : Int))).setCell ⟨d, 7, none⟩ (.bool false)).setCell ⟨d, 8, none⟩ (.int .u64 0)).setCell ⟨d, 9, none⟩ (.slice none 0 0)) d { e with next := next + 1, last := at_, fl := false, fat := 0, Ar := none, nr := 0, cr := 0 } := by
  have h1 := heap_setCell_same W d 5 _ _ (.int .u64 ((next : Int) + 1)) h
  have h2 := heap_setCell_same _ d 6 _ _ (.int .u64 (at_ : Int)) h1
  have h3 := heap_setCell_same _ d 7 _ _ (.bool false) h2
  have h4 := heap_setCell_same _ d 8 _ _ (.int .u64 0) h3
  have h5 := heap_setCell_same _ d 9 _ _ (.slice none 0 0) h4
  unfold EnB
  rw [h5]
  rfl
theorem EnB.runs {W : World} {d : Nat} {e : En} (h : EnB W d e) (A : Option Addr) (n c : Nat) : EnB (W.setCell ⟨d, 9, none⟩ (.slice A n c)) d { e with Ar := A, nr := n, cr := c } := by
  unfold EnB
  rw [heap_setCell_same W d 9 _ _ (.slice A n c) h]
  rfl
theorem EnB.fails {W : World} {d : Nat} {e : En} (h : EnB W d e) (n : Nat) : EnB ((W.setCell ⟨d, 7, none⟩ (.bool true)).setCell ⟨d, 8, none⟩ (.int .u64 (n : Int))) d { e with fl := true, fat := n } := by
  have h1 := heap_setCell_same W d 7 _ _ (.bool true) h
  unfold EnB
  rw [heap_setCell_same _ d 8 _ _ (.int .u64 (n : Int)) h1]
  rfl
theorem keep_reset {w W : World} {d : Nat} (h : Keep (· = d) w W) (next at_ : Nat) : Keep (· = d) w (((((W.setCell ⟨d, 5, none⟩ (.int .u64 ((next : Int) + 1))).setCell ⟨d, 6, none⟩ (.int .u64 (at_ : Int))).setCell ⟨d, 7, none⟩ (.bool false)).setCell ⟨d, 8, none⟩ (.int .u64 0)).setCell ⟨d, 9, none⟩ (.slice none 0 0)) := keep_cell (keep_cell (keep_cell (keep_cell (keep_cell h _ _) _ _) _ _) _ _) _ _
theorem row_mono {w : World} {B B' : Nat} {ty : TypeId} {sz n : Nat} {v : Value} {cs : List Value} (h : w.ownsRow B ty sz v n cs) (hB : B' ≤ B) : w.ownsRow B' ty sz v n cs := by
  refine ⟨h.1, ?_⟩
  rcases h.2 with h0 | ⟨g, cap, cur, hv, hg, r⟩
  · exact .inl h0
  · exact .inr ⟨g, cap, cur, hv, Nat.le_trans hB hg, r⟩
theorem row_cell {w : World} {B : Nat} {ty : TypeId} {sz n : Nat} {v : Value} {cs : List Value} (h : w.ownsRow B ty sz v n cs) {d : Nat} (hd : d < B) (j : Nat) (x : Value) : (w.setCell ⟨d, j, none⟩ x).ownsRow B ty sz v n cs :=
  row_same h fun g cur hg hh => by rw [heap_setCell_other w ⟨d, j, none⟩ g x (by have := (World.ownsRow.lt h g hg).1; show g ≠ d; omega)]; exact hh
theorem row_reset {w : World} {B : Nat} {ty : TypeId} {sz n : Nat} {v : Value} {cs : List Value} (h : w.ownsRow B ty sz v n cs) {d : Nat} (hd : d < B) (next at_ : Nat) : (((((w.setCell ⟨d, 5, none⟩ (.int .u64 ((next : Int) + 1))).setCell ⟨d, 6, none⟩ (.int .u64 (at_ : Int))).setCell ⟨d, 7, none⟩ (.bool false)).setCell ⟨d, 8, none⟩ (.int .u64 0)).setCell ⟨d, 9, none⟩ (.slice none 0 0)).ownsRow B ty sz v n cs := row_cell (row_cell (row_cell (row_cell (row_cell h hd _ _) hd _ _) hd _ _) hd _ _) hd _ _
def FyX (e : En) (d : Nat) (R' : List Ru) (M : List Mt) (l : Lg) (w : World) (en : Ending) (w' : World) : Prop :=
  (64 < R'.length ∧ en = .returned (.tuple #[nsl, .int .i64 12]) ∧ Keep (· = d) w w' ∧ EnB w' d { e with next := e.next + 1, last := l.at_, fl := true, fat := e.next, Ar := none, nr := 0, cr := 0 }) ∨
  (R'.length ≤ 64 ∧ ∃ A c A' c', en = .returned (.tuple #[.slice A' M.length c', .int .i64 0]) ∧ Keep (· = d) w w' ∧ EnB w' d { e with next := e.next + 1, last := l.at_, fl := false, fat := 0, Ar := A, nr := R'.length, cr := c } ∧ Hid (OwnRu w' w.heap.size (.slice A R'.length c) R' ∧ OwnMt w' w.heap.size (.slice A' M.length c') M))
set_option maxHeartbeats 16000000 in
theorem feed_go (d : Nat) (e : En) (Ps : List Qu) (Es : List Ed) (R : List Ru) (l : Lg) (w : World) (h : Enw w d e Ps Es R) (hT : Tab w) (hl : Lok w l) (hf : e.fl = false) (hn : e.next ≠ 1099511627776) :
    Calls Tryz.prog 28 #[.pointer (some ⟨d, 0, none⟩), lval l] w fun en w' =>
      ((l.at_ < e.last ∨ 1099511627776 < l.at_ ∨ emay l.E = false) ∧ FnX 1 w en w') ∨ ((e.last ≤ l.at_ ∧ l.at_ ≤ 1099511627776 ∧ emay l.E = true) ∧ FyX e d (feR Ps Es e.a e.win e.next R l) (feM Ps Es e.a e.b e.win e.next R l) l w en w') := by
  obtain ⟨Ap, kp, cp, a, b, Ae, ke, ce, win, next, last, fl, fat, Ar, nr, cr⟩ := e
  simp only at hf hn
  subst hf
  have F0 : Hid (Ff w (w.alloc (.cells #[.int .u32 l.pub, .int .u64 l.seq, .int .u64 (l.at_ : Int), .int .u8 l.t, .slice l.a l.n l.c] 81)) d ⟨Ap, kp, cp, a, b, Ae, ke, ce, win, next, last, false, fat, Ar, nr, cr⟩ Ps Es R l) := Lib.hid (Ff.start h hT hl)
  have MC := Lib.hid (fun W (h : Lok W l) => emay_any l.t l.a l.n l.c l.E W h.len h.few h.row h.ok)
  have hnx := h.next
  simp only at hnx ⊢
  have n1 : ((next : Int) == 1099511627776) = false := by simp; omega
  clear h hT hl
  go_enter Tryz.func28, Tryz.ntmps28
  go_upto_region 1 with fail
  generalize w.alloc (.cells #[.int .u32 l.pub, .int .u64 l.seq, .int .u64 (l.at_ : Int), .int .u8 l.t, .slice l.a l.n l.c] 81) = w1 at F0 ⊢
  obtain ⟨c0, c1, c2, c3, c4, c5, c6, c7, c8, c9, cf⟩ := F0.out.ew.eb.cells
  simp only at c5 c6 c7
  clear c0 c1 c2 c3 c4 c8 c9 cf
  go_upto_region 6 with fail
  have F1 := Lib.hid (F0.out.next (Below.refl _ _).drew)
  obtain ⟨l2, l3, l4⟩ := F1.out.cl
  have KD : (fun W => W.cell? ⟨w.heap.size, 2, none⟩ = some (.int .u64 (l.at_ : Int)) ∧ W.cell? ⟨w.heap.size, 3, none⟩ = some (.int .u8 l.t) ∧ W.cell? ⟨w.heap.size, 4, none⟩ = some (.slice l.a l.n l.c) ∧ W.cell? ⟨d, 6, none⟩ = some (.int .u64 (last : Int)) ∧ Hid (Ff w W d ⟨Ap, kp, cp, a, b, Ae, ke, ce, win, next, last, false, fat, Ar, nr, cr⟩ Ps Es R l)) w1.drew := ⟨l2, l3, l4, F1.out.ew.eb.cells.2.2.2.2.2.2.1, F1⟩
  clear c5 c6 c7 l2 l3 l4 F0
  by_cases h1 : l.at_ < last
  · have d1 : decide ((l.at_ : Int) < (last : Int)) = true := by simp; omega
    have d1' : decide (l.at_ < last) = true := by simp; omega
    have H1 := Lib.hid h1
    clear h1
    refine wp_region_noPanic ?_
    refine wp_region_held_drew (S := fun W => W.cell? ⟨w.heap.size, 2, none⟩ = some (.int .u64 (l.at_ : Int)) ∧ W.cell? ⟨w.heap.size, 3, none⟩ = some (.int .u8 l.t) ∧ W.cell? ⟨w.heap.size, 4, none⟩ = some (.slice l.a l.n l.c) ∧ W.cell? ⟨d, 6, none⟩ = some (.int .u64 (last : Int)) ∧ Hid (Ff w W d ⟨Ap, kp, cp, a, b, Ae, ke, ce, win, next, last, false, fat, Ar, nr, cr⟩ Ps Es R l)) (by kernel_rfl) (by exact KD) (fun hHeld => ?_)
    refine wpAnyH_take (i := 0) (v := ?_) rfl (by kernel_rfl) (by kernel_rfl) (by kernel_rfl) (fun _ _ _ h => h) (Or.inl ⟨by rfl, ?_⟩) (by assumption) ?_
    rotate_left
    · (intro W hSw; simp only [List.getElem_toArray, List.getElem_cons_zero]; (try dsimp only at hSw); go_simp; with_reducible rfl)
    simp only [List.getElem_toArray, List.getElem_cons_zero, Act.put, List.setIfInBounds_toArray, List.set_cons_zero, List.set_cons_succ]
    refine wpAnyH_take (i := 1) (v := ?_) rfl (by kernel_rfl) (by kernel_rfl) (by kernel_rfl) (fun _ _ _ h => h) (Or.inl ⟨by rfl, ?_⟩) (by assumption) ?_
    rotate_left
    · (intro W hSw; simp only [List.getElem_toArray, List.getElem_cons_succ, List.getElem_cons_zero]; (try dsimp only at hSw); go_simp; with_reducible rfl)
    simp only [List.getElem_toArray, List.getElem_cons_succ, List.getElem_cons_zero, Act.put, List.setIfInBounds_toArray, List.set_cons_zero, List.set_cons_succ]
    refine wpAnyH_take (i := 2) (v := ?_) rfl (by kernel_rfl) (by kernel_rfl) (by kernel_rfl) (fun _ _ _ h => h) (Or.inl ⟨by rfl, ?_⟩) (by assumption) ?_
    rotate_left
    · (intro W hSw; simp only [List.getElem_toArray, List.getElem_cons_succ, List.getElem_cons_zero]; (try dsimp only at hSw); go_simp; with_reducible rfl)
    simp only [List.getElem_toArray, List.getElem_cons_succ, List.getElem_cons_zero, Act.put, List.setIfInBounds_toArray, List.set_cons_zero, List.set_cons_succ]
    refine wpAnyH_take (i := 3) (v := ?_) rfl (by kernel_rfl) (by kernel_rfl) (by kernel_rfl) (fun _ _ _ h => h) (Or.inl ⟨by rfl, ?_⟩) (by assumption) ?_
    rotate_left
    · (intro W hSw; simp only [List.getElem_toArray, List.getElem_cons_succ, List.getElem_cons_zero]; (try dsimp only at hSw); go_simp; with_reducible rfl)
    simp only [List.getElem_toArray, List.getElem_cons_succ, List.getElem_cons_zero, Act.put, List.setIfInBounds_toArray, List.set_cons_zero, List.set_cons_succ]
    refine wpAnyH_take (i := 4) (v := ?_) rfl (by kernel_rfl) (by kernel_rfl) (by kernel_rfl) (fun _ _ _ h => h) (Or.inl ⟨by rfl, ?_⟩) (by assumption) ?_
    rotate_left
    · (intro W hSw; simp only [List.getElem_toArray, List.getElem_cons_succ, List.getElem_cons_zero]; (try dsimp only at hSw); go_simp; with_reducible rfl)
    simp only [List.getElem_toArray, List.getElem_cons_succ, List.getElem_cons_zero, Act.put, List.setIfInBounds_toArray, List.set_cons_zero, List.set_cons_succ]
    refine wpAnyH_take (i := 5) (v := ?_) rfl (by kernel_rfl) (by kernel_rfl) (by kernel_rfl) (fun _ _ _ h => h) (Or.inl ⟨by rfl, ?_⟩) (by assumption) ?_
    rotate_left
    · (intro W hSw; simp only [List.getElem_toArray, List.getElem_cons_succ, List.getElem_cons_zero]; (try dsimp only at hSw); go_simp; with_reducible rfl)
    simp only [List.getElem_toArray, List.getElem_cons_succ, List.getElem_cons_zero, Act.put, List.setIfInBounds_toArray, List.set_cons_zero, List.set_cons_succ]
    refine wpAnyH_take (i := 6) (v := ?_) rfl (by kernel_rfl) (by kernel_rfl) (by kernel_rfl) (fun _ _ _ h => h) (Or.inl ⟨by rfl, ?_⟩) (by assumption) ?_
    rotate_left
    · (intro W hSw; simp only [List.getElem_toArray, List.getElem_cons_succ, List.getElem_cons_zero]; (try dsimp only at hSw); go_simp; with_reducible rfl)
    simp only [List.getElem_toArray, List.getElem_cons_succ, List.getElem_cons_zero, Act.put, List.setIfInBounds_toArray, List.set_cons_zero, List.set_cons_succ]
    refine wpAnyH_take (i := 7) (v := ?_) rfl (by kernel_rfl) (by kernel_rfl) (by kernel_rfl) (fun _ _ _ h => h) (Or.inl ⟨by rfl, ?_⟩) (by assumption) ?_
    rotate_left
    · (intro W hSw; simp only [List.getElem_toArray, List.getElem_cons_succ, List.getElem_cons_zero]; (try dsimp only at hSw); go_simp; with_reducible rfl)
    simp only [List.getElem_toArray, List.getElem_cons_succ, List.getElem_cons_zero, Act.put, List.setIfInBounds_toArray, List.set_cons_zero, List.set_cons_succ]
    refine wpAnyH_take (i := 8) (v := ?_) rfl (by kernel_rfl) (by kernel_rfl) (by kernel_rfl) (fun _ _ _ h => h) (Or.inl ⟨by rfl, ?_⟩) (by assumption) ?_
    rotate_left
    · (intro W hSw; simp only [List.getElem_toArray, List.getElem_cons_succ, List.getElem_cons_zero]; (try dsimp only at hSw); go_simp; with_reducible rfl)
    simp only [List.getElem_toArray, List.getElem_cons_succ, List.getElem_cons_zero, Act.put, List.setIfInBounds_toArray, List.set_cons_zero, List.set_cons_succ]
    refine wpAnyH_take (i := 9) (v := undef) rfl (by kernel_rfl) (by kernel_rfl) (by kernel_rfl) (fun _ _ _ h => h) (Or.inr ⟨by rfl, rfl⟩) (by assumption) ?_
    simp only [List.getElem_toArray, List.getElem_cons_succ, List.getElem_cons_zero, Act.put, List.setIfInBounds_toArray, List.set_cons_zero, List.set_cons_succ]
    refine wpAnyH_take (i := 10) (v := undef) rfl (by kernel_rfl) (by kernel_rfl) (by kernel_rfl) (fun _ _ _ h => h) (Or.inr ⟨by rfl, rfl⟩) (by assumption) ?_
    simp only [List.getElem_toArray, List.getElem_cons_succ, List.getElem_cons_zero, Act.put, List.setIfInBounds_toArray, List.set_cons_zero, List.set_cons_succ]
    refine wpAnyH_take (i := 11) (v := undef) rfl (by kernel_rfl) (by kernel_rfl) (by kernel_rfl) (fun _ _ _ h => h) (Or.inr ⟨by rfl, rfl⟩) (by assumption) ?_
    simp only [List.getElem_toArray, List.getElem_cons_succ, List.getElem_cons_zero, Act.put, List.setIfInBounds_toArray, List.set_cons_zero, List.set_cons_succ]
    refine wpAnyH_take (i := 12) (v := ?_) rfl (by kernel_rfl) (by kernel_rfl) (by kernel_rfl) (fun _ _ _ h => h) (Or.inl ⟨by rfl, ?_⟩) (by assumption) ?_
    rotate_left
    · (intro W hSw; simp only [List.getElem_toArray, List.getElem_cons_succ, List.getElem_cons_zero]; (try dsimp only at hSw); go_simp; with_reducible rfl)
    simp only [List.getElem_toArray, List.getElem_cons_succ, List.getElem_cons_zero, Act.put, List.setIfInBounds_toArray, List.set_cons_zero, List.set_cons_succ]
    refine wpAnyH_take (i := 13) (v := ?_) rfl (by kernel_rfl) (by kernel_rfl) (by kernel_rfl) (fun _ _ _ h => h) (Or.inl ⟨by rfl, ?_⟩) (by assumption) ?_
    rotate_left
    · (intro W hSw; simp only [List.getElem_toArray, List.getElem_cons_succ, List.getElem_cons_zero]; (try dsimp only at hSw); go_simp; with_reducible rfl)
    simp only [List.getElem_toArray, List.getElem_cons_succ, List.getElem_cons_zero, Act.put, List.setIfInBounds_toArray, List.set_cons_zero, List.set_cons_succ]
    refine wpAnyH_take (i := 14) (v := undef) rfl (by kernel_rfl) (by kernel_rfl) (by kernel_rfl) (fun _ _ _ h => h) (Or.inr ⟨by rfl, rfl⟩) (by assumption) ?_
    simp only [List.getElem_toArray, List.getElem_cons_succ, List.getElem_cons_zero, Act.put, List.setIfInBounds_toArray, List.set_cons_zero, List.set_cons_succ]
    refine wpAnyH_take (i := 15) (v := undef) rfl (by kernel_rfl) (by kernel_rfl) (by kernel_rfl) (fun _ _ _ h => h) (Or.inr ⟨by rfl, rfl⟩) (by assumption) ?_
    simp only [List.getElem_toArray, List.getElem_cons_succ, List.getElem_cons_zero, Act.put, List.setIfInBounds_toArray, List.set_cons_zero, List.set_cons_succ]
    refine wpAnyH_take (i := 16) (v := undef) rfl (by kernel_rfl) (by kernel_rfl) (by kernel_rfl) (fun _ _ _ h => h) (Or.inr ⟨by rfl, rfl⟩) (by assumption) ?_
    simp only [List.getElem_toArray, List.getElem_cons_succ, List.getElem_cons_zero, Act.put, List.setIfInBounds_toArray, List.set_cons_zero, List.set_cons_succ]
    refine wpAnyH_take (i := 17) (v := undef) rfl (by kernel_rfl) (by kernel_rfl) (by kernel_rfl) (fun _ _ _ h => h) (Or.inr ⟨by rfl, rfl⟩) (by assumption) ?_
    simp only [List.getElem_toArray, List.getElem_cons_succ, List.getElem_cons_zero, Act.put, List.setIfInBounds_toArray, List.set_cons_zero, List.set_cons_succ]
    refine wpAnyH_take (i := 18) (v := ?_) rfl (by kernel_rfl) (by kernel_rfl) (by kernel_rfl) (fun _ _ _ h => h) (Or.inl ⟨by rfl, ?_⟩) (by assumption) ?_
    rotate_left
    · (intro W hSw; simp only [List.getElem_toArray, List.getElem_cons_succ, List.getElem_cons_zero]; (try dsimp only at hSw); go_simp; with_reducible rfl)
    simp only [List.getElem_toArray, List.getElem_cons_succ, List.getElem_cons_zero, Act.put, List.setIfInBounds_toArray, List.set_cons_zero, List.set_cons_succ]
    refine wpAnyH_done (by kernel_rfl) ?_ _
    refine NoPanic.normal ?_
    go_wp2_with fail
    exact bodyPost_ret (results_tmp2 rfl _ _ _) rfl (Or.inl ⟨Or.inl H1.out, rfl, F1.out.bel⟩)
  · have d1 : decide ((l.at_ : Int) < (last : Int)) = false := by simp; omega
    have d1' : decide (l.at_ < last) = false := by simp; omega
    have H1 := Lib.hid h1
    clear h1
    by_cases h2 : 1099511627776 < l.at_
    · have d2 : decide ((1099511627776 : Int) < (l.at_ : Int)) = true := by simp; omega
      have d2' : decide (1099511627776 < l.at_) = true := by simp; omega
      have H2 := Lib.hid h2
      clear h2
      refine wp_region_noPanic ?_
      refine wp_region_held_drew (S := fun W => W.cell? ⟨w.heap.size, 2, none⟩ = some (.int .u64 (l.at_ : Int)) ∧ W.cell? ⟨w.heap.size, 3, none⟩ = some (.int .u8 l.t) ∧ W.cell? ⟨w.heap.size, 4, none⟩ = some (.slice l.a l.n l.c) ∧ W.cell? ⟨d, 6, none⟩ = some (.int .u64 (last : Int)) ∧ Hid (Ff w W d ⟨Ap, kp, cp, a, b, Ae, ke, ce, win, next, last, false, fat, Ar, nr, cr⟩ Ps Es R l)) (by kernel_rfl) (by exact KD) (fun hHeld => ?_)
      refine wpAnyH_take (i := 0) (v := ?_) rfl (by kernel_rfl) (by kernel_rfl) (by kernel_rfl) (fun _ _ _ h => h) (Or.inl ⟨by rfl, ?_⟩) (by assumption) ?_
      rotate_left
      · (intro W hSw; simp only [List.getElem_toArray, List.getElem_cons_zero]; (try dsimp only at hSw); go_simp; with_reducible rfl)
      simp only [List.getElem_toArray, List.getElem_cons_zero, Act.put, List.setIfInBounds_toArray, List.set_cons_zero, List.set_cons_succ]
      refine wpAnyH_take (i := 1) (v := ?_) rfl (by kernel_rfl) (by kernel_rfl) (by kernel_rfl) (fun _ _ _ h => h) (Or.inl ⟨by rfl, ?_⟩) (by assumption) ?_
      rotate_left
      · (intro W hSw; simp only [List.getElem_toArray, List.getElem_cons_succ, List.getElem_cons_zero]; (try dsimp only at hSw); go_simp; with_reducible rfl)
      simp only [List.getElem_toArray, List.getElem_cons_succ, List.getElem_cons_zero, Act.put, List.setIfInBounds_toArray, List.set_cons_zero, List.set_cons_succ]
      refine wpAnyH_take (i := 2) (v := ?_) rfl (by kernel_rfl) (by kernel_rfl) (by kernel_rfl) (fun _ _ _ h => h) (Or.inl ⟨by rfl, ?_⟩) (by assumption) ?_
      rotate_left
      · (intro W hSw; simp only [List.getElem_toArray, List.getElem_cons_succ, List.getElem_cons_zero]; (try dsimp only at hSw); go_simp; with_reducible rfl)
      simp only [List.getElem_toArray, List.getElem_cons_succ, List.getElem_cons_zero, Act.put, List.setIfInBounds_toArray, List.set_cons_zero, List.set_cons_succ]
      refine wpAnyH_take (i := 3) (v := ?_) rfl (by kernel_rfl) (by kernel_rfl) (by kernel_rfl) (fun _ _ _ h => h) (Or.inl ⟨by rfl, ?_⟩) (by assumption) ?_
      rotate_left
      · (intro W hSw; simp only [List.getElem_toArray, List.getElem_cons_succ, List.getElem_cons_zero]; (try dsimp only at hSw); go_simp; with_reducible rfl)
      simp only [List.getElem_toArray, List.getElem_cons_succ, List.getElem_cons_zero, Act.put, List.setIfInBounds_toArray, List.set_cons_zero, List.set_cons_succ]
      refine wpAnyH_take (i := 4) (v := ?_) rfl (by kernel_rfl) (by kernel_rfl) (by kernel_rfl) (fun _ _ _ h => h) (Or.inl ⟨by rfl, ?_⟩) (by assumption) ?_
      rotate_left
      · (intro W hSw; simp only [List.getElem_toArray, List.getElem_cons_succ, List.getElem_cons_zero]; (try dsimp only at hSw); go_simp; with_reducible rfl)
      simp only [List.getElem_toArray, List.getElem_cons_succ, List.getElem_cons_zero, Act.put, List.setIfInBounds_toArray, List.set_cons_zero, List.set_cons_succ]
      refine wpAnyH_take (i := 5) (v := ?_) rfl (by kernel_rfl) (by kernel_rfl) (by kernel_rfl) (fun _ _ _ h => h) (Or.inl ⟨by rfl, ?_⟩) (by assumption) ?_
      rotate_left
      · (intro W hSw; simp only [List.getElem_toArray, List.getElem_cons_succ, List.getElem_cons_zero]; (try dsimp only at hSw); go_simp; with_reducible rfl)
      simp only [List.getElem_toArray, List.getElem_cons_succ, List.getElem_cons_zero, Act.put, List.setIfInBounds_toArray, List.set_cons_zero, List.set_cons_succ]
      refine wpAnyH_take (i := 6) (v := ?_) rfl (by kernel_rfl) (by kernel_rfl) (by kernel_rfl) (fun _ _ _ h => h) (Or.inl ⟨by rfl, ?_⟩) (by assumption) ?_
      rotate_left
      · (intro W hSw; simp only [List.getElem_toArray, List.getElem_cons_succ, List.getElem_cons_zero]; (try dsimp only at hSw); go_simp; with_reducible rfl)
      simp only [List.getElem_toArray, List.getElem_cons_succ, List.getElem_cons_zero, Act.put, List.setIfInBounds_toArray, List.set_cons_zero, List.set_cons_succ]
      refine wpAnyH_take (i := 7) (v := ?_) rfl (by kernel_rfl) (by kernel_rfl) (by kernel_rfl) (fun _ _ _ h => h) (Or.inl ⟨by rfl, ?_⟩) (by assumption) ?_
      rotate_left
      · (intro W hSw; simp only [List.getElem_toArray, List.getElem_cons_succ, List.getElem_cons_zero]; (try dsimp only at hSw); go_simp; with_reducible rfl)
      simp only [List.getElem_toArray, List.getElem_cons_succ, List.getElem_cons_zero, Act.put, List.setIfInBounds_toArray, List.set_cons_zero, List.set_cons_succ]
      refine wpAnyH_take (i := 8) (v := ?_) rfl (by kernel_rfl) (by kernel_rfl) (by kernel_rfl) (fun _ _ _ h => h) (Or.inl ⟨by rfl, ?_⟩) (by assumption) ?_
      rotate_left
      · (intro W hSw; simp only [List.getElem_toArray, List.getElem_cons_succ, List.getElem_cons_zero]; (try dsimp only at hSw); go_simp; with_reducible rfl)
      simp only [List.getElem_toArray, List.getElem_cons_succ, List.getElem_cons_zero, Act.put, List.setIfInBounds_toArray, List.set_cons_zero, List.set_cons_succ]
      refine wpAnyH_take (i := 9) (v := ?_) rfl (by kernel_rfl) (by kernel_rfl) (by kernel_rfl) (fun _ _ _ h => h) (Or.inl ⟨by rfl, ?_⟩) (by assumption) ?_
      rotate_left
      · (intro W hSw; simp only [List.getElem_toArray, List.getElem_cons_succ, List.getElem_cons_zero]; (try dsimp only at hSw); go_simp; with_reducible rfl)
      simp only [List.getElem_toArray, List.getElem_cons_succ, List.getElem_cons_zero, Act.put, List.setIfInBounds_toArray, List.set_cons_zero, List.set_cons_succ]
      refine wpAnyH_take (i := 10) (v := ?_) rfl (by kernel_rfl) (by kernel_rfl) (by kernel_rfl) (fun _ _ _ h => h) (Or.inl ⟨by rfl, ?_⟩) (by assumption) ?_
      rotate_left
      · (intro W hSw; simp only [List.getElem_toArray, List.getElem_cons_succ, List.getElem_cons_zero]; (try dsimp only at hSw); go_simp; with_reducible rfl)
      simp only [List.getElem_toArray, List.getElem_cons_succ, List.getElem_cons_zero, Act.put, List.setIfInBounds_toArray, List.set_cons_zero, List.set_cons_succ]
      refine wpAnyH_take (i := 11) (v := ?_) rfl (by kernel_rfl) (by kernel_rfl) (by kernel_rfl) (fun _ _ _ h => h) (Or.inl ⟨by rfl, ?_⟩) (by assumption) ?_
      rotate_left
      · (intro W hSw; simp only [List.getElem_toArray, List.getElem_cons_succ, List.getElem_cons_zero]; (try dsimp only at hSw); go_simp; with_reducible rfl)
      simp only [List.getElem_toArray, List.getElem_cons_succ, List.getElem_cons_zero, Act.put, List.setIfInBounds_toArray, List.set_cons_zero, List.set_cons_succ]
      refine wpAnyH_take (i := 12) (v := ?_) rfl (by kernel_rfl) (by kernel_rfl) (by kernel_rfl) (fun _ _ _ h => h) (Or.inl ⟨by rfl, ?_⟩) (by assumption) ?_
      rotate_left
      · (intro W hSw; simp only [List.getElem_toArray, List.getElem_cons_succ, List.getElem_cons_zero]; (try dsimp only at hSw); go_simp; with_reducible rfl)
      simp only [List.getElem_toArray, List.getElem_cons_succ, List.getElem_cons_zero, Act.put, List.setIfInBounds_toArray, List.set_cons_zero, List.set_cons_succ]
      refine wpAnyH_take (i := 13) (v := ?_) rfl (by kernel_rfl) (by kernel_rfl) (by kernel_rfl) (fun _ _ _ h => h) (Or.inl ⟨by rfl, ?_⟩) (by assumption) ?_
      rotate_left
      · (intro W hSw; simp only [List.getElem_toArray, List.getElem_cons_succ, List.getElem_cons_zero]; (try dsimp only at hSw); go_simp; with_reducible rfl)
      simp only [List.getElem_toArray, List.getElem_cons_succ, List.getElem_cons_zero, Act.put, List.setIfInBounds_toArray, List.set_cons_zero, List.set_cons_succ]
      refine wpAnyH_take (i := 14) (v := undef) rfl (by kernel_rfl) (by kernel_rfl) (by kernel_rfl) (fun _ _ _ h => h) (Or.inr ⟨by rfl, rfl⟩) (by assumption) ?_
      simp only [List.getElem_toArray, List.getElem_cons_succ, List.getElem_cons_zero, Act.put, List.setIfInBounds_toArray, List.set_cons_zero, List.set_cons_succ]
      refine wpAnyH_take (i := 15) (v := undef) rfl (by kernel_rfl) (by kernel_rfl) (by kernel_rfl) (fun _ _ _ h => h) (Or.inr ⟨by rfl, rfl⟩) (by assumption) ?_
      simp only [List.getElem_toArray, List.getElem_cons_succ, List.getElem_cons_zero, Act.put, List.setIfInBounds_toArray, List.set_cons_zero, List.set_cons_succ]
      refine wpAnyH_take (i := 16) (v := undef) rfl (by kernel_rfl) (by kernel_rfl) (by kernel_rfl) (fun _ _ _ h => h) (Or.inr ⟨by rfl, rfl⟩) (by assumption) ?_
      simp only [List.getElem_toArray, List.getElem_cons_succ, List.getElem_cons_zero, Act.put, List.setIfInBounds_toArray, List.set_cons_zero, List.set_cons_succ]
      refine wpAnyH_take (i := 17) (v := undef) rfl (by kernel_rfl) (by kernel_rfl) (by kernel_rfl) (fun _ _ _ h => h) (Or.inr ⟨by rfl, rfl⟩) (by assumption) ?_
      simp only [List.getElem_toArray, List.getElem_cons_succ, List.getElem_cons_zero, Act.put, List.setIfInBounds_toArray, List.set_cons_zero, List.set_cons_succ]
      refine wpAnyH_take (i := 18) (v := ?_) rfl (by kernel_rfl) (by kernel_rfl) (by kernel_rfl) (fun _ _ _ h => h) (Or.inl ⟨by rfl, ?_⟩) (by assumption) ?_
      rotate_left
      · (intro W hSw; simp only [List.getElem_toArray, List.getElem_cons_succ, List.getElem_cons_zero]; (try dsimp only at hSw); go_simp; with_reducible rfl)
      simp only [List.getElem_toArray, List.getElem_cons_succ, List.getElem_cons_zero, Act.put, List.setIfInBounds_toArray, List.set_cons_zero, List.set_cons_succ]
      refine wpAnyH_done (by kernel_rfl) ?_ _
      refine NoPanic.normal ?_
      go_wp2_with fail
      exact bodyPost_ret (results_tmp2 rfl _ _ _) rfl (Or.inl ⟨Or.inr (Or.inl H2.out), rfl, F1.out.bel⟩)
    · have d2 : decide ((1099511627776 : Int) < (l.at_ : Int)) = false := by simp; omega
      have d2' : decide (1099511627776 < l.at_) = false := by simp; omega
      have H2 := Lib.hid h2
      clear h2
      obtain ⟨bm, hbm⟩ : ∃ z, emay l.E = z := ⟨_, rfl⟩
      rw [hbm] at MC
      have HBM := Lib.hid hbm
      clear hbm
      cases bm
      · skip
        refine wp_region_noPanic ?_
        refine wp_region_held_drew (S := fun W => W.cell? ⟨w.heap.size, 2, none⟩ = some (.int .u64 (l.at_ : Int)) ∧ W.cell? ⟨w.heap.size, 3, none⟩ = some (.int .u8 l.t) ∧ W.cell? ⟨w.heap.size, 4, none⟩ = some (.slice l.a l.n l.c) ∧ W.cell? ⟨d, 6, none⟩ = some (.int .u64 (last : Int)) ∧ Hid (Ff w W d ⟨Ap, kp, cp, a, b, Ae, ke, ce, win, next, last, false, fat, Ar, nr, cr⟩ Ps Es R l)) (by kernel_rfl) (by exact KD) (fun hHeld => ?_)
        refine wpAnyH_take (i := 0) (v := ?_) rfl (by kernel_rfl) (by kernel_rfl) (by kernel_rfl) (fun _ _ _ h => h) (Or.inl ⟨by rfl, ?_⟩) (by assumption) ?_
        rotate_left
        · (intro W hSw; simp only [List.getElem_toArray, List.getElem_cons_zero]; (try dsimp only at hSw); go_simp; with_reducible rfl)
        simp only [List.getElem_toArray, List.getElem_cons_zero, Act.put, List.setIfInBounds_toArray, List.set_cons_zero, List.set_cons_succ]
        refine wpAnyH_take (i := 1) (v := ?_) rfl (by kernel_rfl) (by kernel_rfl) (by kernel_rfl) (fun _ _ _ h => h) (Or.inl ⟨by rfl, ?_⟩) (by assumption) ?_
        rotate_left
        · (intro W hSw; simp only [List.getElem_toArray, List.getElem_cons_succ, List.getElem_cons_zero]; (try dsimp only at hSw); go_simp; with_reducible rfl)
        simp only [List.getElem_toArray, List.getElem_cons_succ, List.getElem_cons_zero, Act.put, List.setIfInBounds_toArray, List.set_cons_zero, List.set_cons_succ]
        refine wpAnyH_take (i := 2) (v := ?_) rfl (by kernel_rfl) (by kernel_rfl) (by kernel_rfl) (fun _ _ _ h => h) (Or.inl ⟨by rfl, ?_⟩) (by assumption) ?_
        rotate_left
        · (intro W hSw; simp only [List.getElem_toArray, List.getElem_cons_succ, List.getElem_cons_zero]; (try dsimp only at hSw); go_simp; with_reducible rfl)
        simp only [List.getElem_toArray, List.getElem_cons_succ, List.getElem_cons_zero, Act.put, List.setIfInBounds_toArray, List.set_cons_zero, List.set_cons_succ]
        refine wpAnyH_take (i := 3) (v := ?_) rfl (by kernel_rfl) (by kernel_rfl) (by kernel_rfl) (fun _ _ _ h => h) (Or.inl ⟨by rfl, ?_⟩) (by assumption) ?_
        rotate_left
        · (intro W hSw; simp only [List.getElem_toArray, List.getElem_cons_succ, List.getElem_cons_zero]; (try dsimp only at hSw); go_simp; with_reducible rfl)
        simp only [List.getElem_toArray, List.getElem_cons_succ, List.getElem_cons_zero, Act.put, List.setIfInBounds_toArray, List.set_cons_zero, List.set_cons_succ]
        refine wpAnyH_take (i := 4) (v := ?_) rfl (by kernel_rfl) (by kernel_rfl) (by kernel_rfl) (fun _ _ _ h => h) (Or.inl ⟨by rfl, ?_⟩) (by assumption) ?_
        rotate_left
        · (intro W hSw; simp only [List.getElem_toArray, List.getElem_cons_succ, List.getElem_cons_zero]; (try dsimp only at hSw); go_simp; with_reducible rfl)
        simp only [List.getElem_toArray, List.getElem_cons_succ, List.getElem_cons_zero, Act.put, List.setIfInBounds_toArray, List.set_cons_zero, List.set_cons_succ]
        refine wpAnyH_take (i := 5) (v := ?_) rfl (by kernel_rfl) (by kernel_rfl) (by kernel_rfl) (fun _ _ _ h => h) (Or.inl ⟨by rfl, ?_⟩) (by assumption) ?_
        rotate_left
        · (intro W hSw; simp only [List.getElem_toArray, List.getElem_cons_succ, List.getElem_cons_zero]; (try dsimp only at hSw); go_simp; with_reducible rfl)
        simp only [List.getElem_toArray, List.getElem_cons_succ, List.getElem_cons_zero, Act.put, List.setIfInBounds_toArray, List.set_cons_zero, List.set_cons_succ]
        refine wpAnyH_take (i := 6) (v := ?_) rfl (by kernel_rfl) (by kernel_rfl) (by kernel_rfl) (fun _ _ _ h => h) (Or.inl ⟨by rfl, ?_⟩) (by assumption) ?_
        rotate_left
        · (intro W hSw; simp only [List.getElem_toArray, List.getElem_cons_succ, List.getElem_cons_zero]; (try dsimp only at hSw); go_simp; with_reducible rfl)
        simp only [List.getElem_toArray, List.getElem_cons_succ, List.getElem_cons_zero, Act.put, List.setIfInBounds_toArray, List.set_cons_zero, List.set_cons_succ]
        refine wpAnyH_take (i := 7) (v := ?_) rfl (by kernel_rfl) (by kernel_rfl) (by kernel_rfl) (fun _ _ _ h => h) (Or.inl ⟨by rfl, ?_⟩) (by assumption) ?_
        rotate_left
        · (intro W hSw; simp only [List.getElem_toArray, List.getElem_cons_succ, List.getElem_cons_zero]; (try dsimp only at hSw); go_simp; with_reducible rfl)
        simp only [List.getElem_toArray, List.getElem_cons_succ, List.getElem_cons_zero, Act.put, List.setIfInBounds_toArray, List.set_cons_zero, List.set_cons_succ]
        refine wpAnyH_take (i := 8) (v := ?_) rfl (by kernel_rfl) (by kernel_rfl) (by kernel_rfl) (fun _ _ _ h => h) (Or.inl ⟨by rfl, ?_⟩) (by assumption) ?_
        rotate_left
        · (intro W hSw; simp only [List.getElem_toArray, List.getElem_cons_succ, List.getElem_cons_zero]; (try dsimp only at hSw); go_simp; with_reducible rfl)
        simp only [List.getElem_toArray, List.getElem_cons_succ, List.getElem_cons_zero, Act.put, List.setIfInBounds_toArray, List.set_cons_zero, List.set_cons_succ]
        refine wpAnyH_take (i := 9) (v := ?_) rfl (by kernel_rfl) (by kernel_rfl) (by kernel_rfl) (fun _ _ _ h => h) (Or.inl ⟨by rfl, ?_⟩) (by assumption) ?_
        rotate_left
        · (intro W hSw; simp only [List.getElem_toArray, List.getElem_cons_succ, List.getElem_cons_zero]; (try dsimp only at hSw); go_simp; with_reducible rfl)
        simp only [List.getElem_toArray, List.getElem_cons_succ, List.getElem_cons_zero, Act.put, List.setIfInBounds_toArray, List.set_cons_zero, List.set_cons_succ]
        refine wpAnyH_take (i := 10) (v := ?_) rfl (by kernel_rfl) (by kernel_rfl) (by kernel_rfl) (fun _ _ _ h => h) (Or.inl ⟨by rfl, ?_⟩) (by assumption) ?_
        rotate_left
        · (intro W hSw; simp only [List.getElem_toArray, List.getElem_cons_succ, List.getElem_cons_zero]; (try dsimp only at hSw); go_simp; with_reducible rfl)
        simp only [List.getElem_toArray, List.getElem_cons_succ, List.getElem_cons_zero, Act.put, List.setIfInBounds_toArray, List.set_cons_zero, List.set_cons_succ]
        refine wpAnyH_take (i := 11) (v := ?_) rfl (by kernel_rfl) (by kernel_rfl) (by kernel_rfl) (fun _ _ _ h => h) (Or.inl ⟨by rfl, ?_⟩) (by assumption) ?_
        rotate_left
        · (intro W hSw; simp only [List.getElem_toArray, List.getElem_cons_succ, List.getElem_cons_zero]; (try dsimp only at hSw); go_simp; with_reducible rfl)
        simp only [List.getElem_toArray, List.getElem_cons_succ, List.getElem_cons_zero, Act.put, List.setIfInBounds_toArray, List.set_cons_zero, List.set_cons_succ]
        refine wpAnyH_take (i := 12) (v := ?_) rfl (by kernel_rfl) (by kernel_rfl) (by kernel_rfl) (fun _ _ _ h => h) (Or.inl ⟨by rfl, ?_⟩) (by assumption) ?_
        rotate_left
        · (intro W hSw; simp only [List.getElem_toArray, List.getElem_cons_succ, List.getElem_cons_zero]; (try dsimp only at hSw); go_simp; with_reducible rfl)
        simp only [List.getElem_toArray, List.getElem_cons_succ, List.getElem_cons_zero, Act.put, List.setIfInBounds_toArray, List.set_cons_zero, List.set_cons_succ]
        refine wpAnyH_take (i := 13) (v := ?_) rfl (by kernel_rfl) (by kernel_rfl) (by kernel_rfl) (fun _ _ _ h => h) (Or.inl ⟨by rfl, ?_⟩) (by assumption) ?_
        rotate_left
        · (intro W hSw; simp only [List.getElem_toArray, List.getElem_cons_succ, List.getElem_cons_zero]; (try dsimp only at hSw); go_simp; with_reducible rfl)
        simp only [List.getElem_toArray, List.getElem_cons_succ, List.getElem_cons_zero, Act.put, List.setIfInBounds_toArray, List.set_cons_zero, List.set_cons_succ]
        refine wpAnyH_take (i := 14) (v := ?_) rfl (by kernel_rfl) (by kernel_rfl) (by kernel_rfl) (fun _ _ _ h => h) (Or.inl ⟨by rfl, ?_⟩) (by assumption) ?_
        rotate_left
        · (intro W hSw; simp only [List.getElem_toArray, List.getElem_cons_succ, List.getElem_cons_zero]; (try dsimp only at hSw); go_simp; with_reducible rfl)
        simp only [List.getElem_toArray, List.getElem_cons_succ, List.getElem_cons_zero, Act.put, List.setIfInBounds_toArray, List.set_cons_zero, List.set_cons_succ]
        refine wpAnyH_take (i := 15) (v := ?_) rfl (by kernel_rfl) (by kernel_rfl) (by kernel_rfl) (fun _ _ _ h => h) (Or.inl ⟨by rfl, ?_⟩) (by assumption) ?_
        rotate_left
        · (intro W hSw; simp only [List.getElem_toArray, List.getElem_cons_succ, List.getElem_cons_zero]; (try dsimp only at hSw); go_simp; with_reducible rfl)
        simp only [List.getElem_toArray, List.getElem_cons_succ, List.getElem_cons_zero, Act.put, List.setIfInBounds_toArray, List.set_cons_zero, List.set_cons_succ]
        refine wpAnyH_ready (rs := [16]) (by kernel_rfl) (by simp) ?_
        refine AllReadyH.cons rfl (fun K hK => ?_) AllReadyH.nil
        (try simp only [List.getElem_toArray, List.getElem_cons_succ, List.getElem_cons_zero])
        go_simp
        go_wp2_with (go_at_call 68; refine (MC.out _ hHeld.2.2.2.2.out.lk).mono ?_; rintro e w4 ⟨rfl, b1⟩)
        refine hK.out _ _ (ff_next hHeld b1) (fun hHeld => ?_)
        (try simp only [List.getElem_toArray, List.getElem_cons_succ, List.getElem_cons_zero, Act.put, List.setIfInBounds_toArray, List.set_cons_zero, List.set_cons_succ])
        refine wpAnyH_take (i := 17) (v := ?_) rfl (by kernel_rfl) (by kernel_rfl) (by kernel_rfl) (fun _ _ _ h => h) (Or.inl ⟨by rfl, ?_⟩) (by assumption) ?_
        rotate_left
        · (intro W hSw; simp only [List.getElem_toArray, List.getElem_cons_succ, List.getElem_cons_zero]; (try dsimp only at hSw); go_simp; with_reducible rfl)
        simp only [List.getElem_toArray, List.getElem_cons_succ, List.getElem_cons_zero, Act.put, List.setIfInBounds_toArray, List.set_cons_zero, List.set_cons_succ]
        refine wpAnyH_take (i := 18) (v := ?_) rfl (by kernel_rfl) (by kernel_rfl) (by kernel_rfl) (fun _ _ _ h => h) (Or.inl ⟨by rfl, ?_⟩) (by assumption) ?_
        rotate_left
        · (intro W hSw; simp only [List.getElem_toArray, List.getElem_cons_succ, List.getElem_cons_zero]; (try dsimp only at hSw); go_simp; with_reducible rfl)
        simp only [List.getElem_toArray, List.getElem_cons_succ, List.getElem_cons_zero, Act.put, List.setIfInBounds_toArray, List.set_cons_zero, List.set_cons_succ]
        refine wpAnyH_done (by kernel_rfl) ?_ _
        refine NoPanic.normal ?_
        have FE := Lib.hid hHeld.2.2.2.2.out.bel
        go_wp2_with fail
        exact bodyPost_ret (results_tmp2 rfl _ _ _) rfl (Or.inl ⟨Or.inr (Or.inr HBM.out), rfl, FE.out⟩)
      · skip
        refine wp_region_noPanic ?_
        refine wp_region_held_drew (S := fun W => W.cell? ⟨w.heap.size, 2, none⟩ = some (.int .u64 (l.at_ : Int)) ∧ W.cell? ⟨w.heap.size, 3, none⟩ = some (.int .u8 l.t) ∧ W.cell? ⟨w.heap.size, 4, none⟩ = some (.slice l.a l.n l.c) ∧ W.cell? ⟨d, 6, none⟩ = some (.int .u64 (last : Int)) ∧ Hid (Ff w W d ⟨Ap, kp, cp, a, b, Ae, ke, ce, win, next, last, false, fat, Ar, nr, cr⟩ Ps Es R l)) (by kernel_rfl) (by exact KD) (fun hHeld => ?_)
        refine wpAnyH_take (i := 0) (v := ?_) rfl (by kernel_rfl) (by kernel_rfl) (by kernel_rfl) (fun _ _ _ h => h) (Or.inl ⟨by rfl, ?_⟩) (by assumption) ?_
        rotate_left
        · (intro W hSw; simp only [List.getElem_toArray, List.getElem_cons_zero]; (try dsimp only at hSw); go_simp; with_reducible rfl)
        simp only [List.getElem_toArray, List.getElem_cons_zero, Act.put, List.setIfInBounds_toArray, List.set_cons_zero, List.set_cons_succ]
        refine wpAnyH_take (i := 1) (v := ?_) rfl (by kernel_rfl) (by kernel_rfl) (by kernel_rfl) (fun _ _ _ h => h) (Or.inl ⟨by rfl, ?_⟩) (by assumption) ?_
        rotate_left
        · (intro W hSw; simp only [List.getElem_toArray, List.getElem_cons_succ, List.getElem_cons_zero]; (try dsimp only at hSw); go_simp; with_reducible rfl)
        simp only [List.getElem_toArray, List.getElem_cons_succ, List.getElem_cons_zero, Act.put, List.setIfInBounds_toArray, List.set_cons_zero, List.set_cons_succ]
        refine wpAnyH_take (i := 2) (v := ?_) rfl (by kernel_rfl) (by kernel_rfl) (by kernel_rfl) (fun _ _ _ h => h) (Or.inl ⟨by rfl, ?_⟩) (by assumption) ?_
        rotate_left
        · (intro W hSw; simp only [List.getElem_toArray, List.getElem_cons_succ, List.getElem_cons_zero]; (try dsimp only at hSw); go_simp; with_reducible rfl)
        simp only [List.getElem_toArray, List.getElem_cons_succ, List.getElem_cons_zero, Act.put, List.setIfInBounds_toArray, List.set_cons_zero, List.set_cons_succ]
        refine wpAnyH_take (i := 3) (v := ?_) rfl (by kernel_rfl) (by kernel_rfl) (by kernel_rfl) (fun _ _ _ h => h) (Or.inl ⟨by rfl, ?_⟩) (by assumption) ?_
        rotate_left
        · (intro W hSw; simp only [List.getElem_toArray, List.getElem_cons_succ, List.getElem_cons_zero]; (try dsimp only at hSw); go_simp; with_reducible rfl)
        simp only [List.getElem_toArray, List.getElem_cons_succ, List.getElem_cons_zero, Act.put, List.setIfInBounds_toArray, List.set_cons_zero, List.set_cons_succ]
        refine wpAnyH_take (i := 4) (v := ?_) rfl (by kernel_rfl) (by kernel_rfl) (by kernel_rfl) (fun _ _ _ h => h) (Or.inl ⟨by rfl, ?_⟩) (by assumption) ?_
        rotate_left
        · (intro W hSw; simp only [List.getElem_toArray, List.getElem_cons_succ, List.getElem_cons_zero]; (try dsimp only at hSw); go_simp; with_reducible rfl)
        simp only [List.getElem_toArray, List.getElem_cons_succ, List.getElem_cons_zero, Act.put, List.setIfInBounds_toArray, List.set_cons_zero, List.set_cons_succ]
        refine wpAnyH_take (i := 5) (v := ?_) rfl (by kernel_rfl) (by kernel_rfl) (by kernel_rfl) (fun _ _ _ h => h) (Or.inl ⟨by rfl, ?_⟩) (by assumption) ?_
        rotate_left
        · (intro W hSw; simp only [List.getElem_toArray, List.getElem_cons_succ, List.getElem_cons_zero]; (try dsimp only at hSw); go_simp; with_reducible rfl)
        simp only [List.getElem_toArray, List.getElem_cons_succ, List.getElem_cons_zero, Act.put, List.setIfInBounds_toArray, List.set_cons_zero, List.set_cons_succ]
        refine wpAnyH_take (i := 6) (v := ?_) rfl (by kernel_rfl) (by kernel_rfl) (by kernel_rfl) (fun _ _ _ h => h) (Or.inl ⟨by rfl, ?_⟩) (by assumption) ?_
        rotate_left
        · (intro W hSw; simp only [List.getElem_toArray, List.getElem_cons_succ, List.getElem_cons_zero]; (try dsimp only at hSw); go_simp; with_reducible rfl)
        simp only [List.getElem_toArray, List.getElem_cons_succ, List.getElem_cons_zero, Act.put, List.setIfInBounds_toArray, List.set_cons_zero, List.set_cons_succ]
        refine wpAnyH_take (i := 7) (v := ?_) rfl (by kernel_rfl) (by kernel_rfl) (by kernel_rfl) (fun _ _ _ h => h) (Or.inl ⟨by rfl, ?_⟩) (by assumption) ?_
        rotate_left
        · (intro W hSw; simp only [List.getElem_toArray, List.getElem_cons_succ, List.getElem_cons_zero]; (try dsimp only at hSw); go_simp; with_reducible rfl)
        simp only [List.getElem_toArray, List.getElem_cons_succ, List.getElem_cons_zero, Act.put, List.setIfInBounds_toArray, List.set_cons_zero, List.set_cons_succ]
        refine wpAnyH_take (i := 8) (v := ?_) rfl (by kernel_rfl) (by kernel_rfl) (by kernel_rfl) (fun _ _ _ h => h) (Or.inl ⟨by rfl, ?_⟩) (by assumption) ?_
        rotate_left
        · (intro W hSw; simp only [List.getElem_toArray, List.getElem_cons_succ, List.getElem_cons_zero]; (try dsimp only at hSw); go_simp; with_reducible rfl)
        simp only [List.getElem_toArray, List.getElem_cons_succ, List.getElem_cons_zero, Act.put, List.setIfInBounds_toArray, List.set_cons_zero, List.set_cons_succ]
        refine wpAnyH_take (i := 9) (v := ?_) rfl (by kernel_rfl) (by kernel_rfl) (by kernel_rfl) (fun _ _ _ h => h) (Or.inl ⟨by rfl, ?_⟩) (by assumption) ?_
        rotate_left
        · (intro W hSw; simp only [List.getElem_toArray, List.getElem_cons_succ, List.getElem_cons_zero]; (try dsimp only at hSw); go_simp; with_reducible rfl)
        simp only [List.getElem_toArray, List.getElem_cons_succ, List.getElem_cons_zero, Act.put, List.setIfInBounds_toArray, List.set_cons_zero, List.set_cons_succ]
        refine wpAnyH_take (i := 10) (v := ?_) rfl (by kernel_rfl) (by kernel_rfl) (by kernel_rfl) (fun _ _ _ h => h) (Or.inl ⟨by rfl, ?_⟩) (by assumption) ?_
        rotate_left
        · (intro W hSw; simp only [List.getElem_toArray, List.getElem_cons_succ, List.getElem_cons_zero]; (try dsimp only at hSw); go_simp; with_reducible rfl)
        simp only [List.getElem_toArray, List.getElem_cons_succ, List.getElem_cons_zero, Act.put, List.setIfInBounds_toArray, List.set_cons_zero, List.set_cons_succ]
        refine wpAnyH_take (i := 11) (v := ?_) rfl (by kernel_rfl) (by kernel_rfl) (by kernel_rfl) (fun _ _ _ h => h) (Or.inl ⟨by rfl, ?_⟩) (by assumption) ?_
        rotate_left
        · (intro W hSw; simp only [List.getElem_toArray, List.getElem_cons_succ, List.getElem_cons_zero]; (try dsimp only at hSw); go_simp; with_reducible rfl)
        simp only [List.getElem_toArray, List.getElem_cons_succ, List.getElem_cons_zero, Act.put, List.setIfInBounds_toArray, List.set_cons_zero, List.set_cons_succ]
        refine wpAnyH_take (i := 12) (v := ?_) rfl (by kernel_rfl) (by kernel_rfl) (by kernel_rfl) (fun _ _ _ h => h) (Or.inl ⟨by rfl, ?_⟩) (by assumption) ?_
        rotate_left
        · (intro W hSw; simp only [List.getElem_toArray, List.getElem_cons_succ, List.getElem_cons_zero]; (try dsimp only at hSw); go_simp; with_reducible rfl)
        simp only [List.getElem_toArray, List.getElem_cons_succ, List.getElem_cons_zero, Act.put, List.setIfInBounds_toArray, List.set_cons_zero, List.set_cons_succ]
        refine wpAnyH_take (i := 13) (v := ?_) rfl (by kernel_rfl) (by kernel_rfl) (by kernel_rfl) (fun _ _ _ h => h) (Or.inl ⟨by rfl, ?_⟩) (by assumption) ?_
        rotate_left
        · (intro W hSw; simp only [List.getElem_toArray, List.getElem_cons_succ, List.getElem_cons_zero]; (try dsimp only at hSw); go_simp; with_reducible rfl)
        simp only [List.getElem_toArray, List.getElem_cons_succ, List.getElem_cons_zero, Act.put, List.setIfInBounds_toArray, List.set_cons_zero, List.set_cons_succ]
        refine wpAnyH_take (i := 14) (v := ?_) rfl (by kernel_rfl) (by kernel_rfl) (by kernel_rfl) (fun _ _ _ h => h) (Or.inl ⟨by rfl, ?_⟩) (by assumption) ?_
        rotate_left
        · (intro W hSw; simp only [List.getElem_toArray, List.getElem_cons_succ, List.getElem_cons_zero]; (try dsimp only at hSw); go_simp; with_reducible rfl)
        simp only [List.getElem_toArray, List.getElem_cons_succ, List.getElem_cons_zero, Act.put, List.setIfInBounds_toArray, List.set_cons_zero, List.set_cons_succ]
        refine wpAnyH_take (i := 15) (v := ?_) rfl (by kernel_rfl) (by kernel_rfl) (by kernel_rfl) (fun _ _ _ h => h) (Or.inl ⟨by rfl, ?_⟩) (by assumption) ?_
        rotate_left
        · (intro W hSw; simp only [List.getElem_toArray, List.getElem_cons_succ, List.getElem_cons_zero]; (try dsimp only at hSw); go_simp; with_reducible rfl)
        simp only [List.getElem_toArray, List.getElem_cons_succ, List.getElem_cons_zero, Act.put, List.setIfInBounds_toArray, List.set_cons_zero, List.set_cons_succ]
        refine wpAnyH_ready (rs := [16]) (by kernel_rfl) (by simp) ?_
        refine AllReadyH.cons rfl (fun K hK => ?_) AllReadyH.nil
        (try simp only [List.getElem_toArray, List.getElem_cons_succ, List.getElem_cons_zero])
        go_simp
        go_wp2_with (go_at_call 68; refine (MC.out _ hHeld.2.2.2.2.out.lk).mono ?_; rintro e w4 ⟨rfl, b1⟩)
        refine hK.out _ _ (ff_next hHeld b1) (fun hHeld => ?_)
        (try simp only [List.getElem_toArray, List.getElem_cons_succ, List.getElem_cons_zero, Act.put, List.setIfInBounds_toArray, List.set_cons_zero, List.set_cons_succ])
        refine wpAnyH_take (i := 17) (v := ?_) rfl (by kernel_rfl) (by kernel_rfl) (by kernel_rfl) (fun _ _ _ h => h) (Or.inl ⟨by rfl, ?_⟩) (by assumption) ?_
        rotate_left
        · (intro W hSw; simp only [List.getElem_toArray, List.getElem_cons_succ, List.getElem_cons_zero]; (try dsimp only at hSw); go_simp; with_reducible rfl)
        simp only [List.getElem_toArray, List.getElem_cons_succ, List.getElem_cons_zero, Act.put, List.setIfInBounds_toArray, List.set_cons_zero, List.set_cons_succ]
        refine wpAnyH_take (i := 18) (v := ?_) rfl (by kernel_rfl) (by kernel_rfl) (by kernel_rfl) (fun _ _ _ h => h) (Or.inl ⟨by rfl, ?_⟩) (by assumption) ?_
        rotate_left
        · (intro W hSw; simp only [List.getElem_toArray, List.getElem_cons_succ, List.getElem_cons_zero]; (try dsimp only at hSw); go_simp; with_reducible rfl)
        simp only [List.getElem_toArray, List.getElem_cons_succ, List.getElem_cons_zero, Act.put, List.setIfInBounds_toArray, List.set_cons_zero, List.set_cons_succ]
        refine wpAnyH_done (by kernel_rfl) ?_ _
        refine NoPanic.normal ?_
        have F4 := hHeld.2.2.2.2
        have hlb := Lib.hid (show last ≤ l.at_ by have := H1.out; omega)
        have FC := Lib.hid (fed_any w4 d _ _ _ _ _ _ _ _ _ _ _ _ _ Ps Es R l (F4.out.ew.fe hlb.out F4.out.tab F4.out.lk))
        simp only at FC
        have q0 : w4.cell? ⟨w.heap.size, 0, none⟩ = some (.int .u32 l.pub) := by rw [cell_of_row _ _ _ _ _ _ F4.out.l]; rfl
        have q1 : w4.cell? ⟨w.heap.size, 1, none⟩ = some (.int .u64 l.seq) := by rw [cell_of_row _ _ _ _ _ _ F4.out.l]; rfl
        obtain ⟨q2, q3, q4⟩ := F4.out.cl
        obtain ⟨R', hR'⟩ : ∃ z, feR Ps Es a win next R l = z := ⟨_, rfl⟩
        obtain ⟨M', hM'⟩ : ∃ z, feM Ps Es a b win next R l = z := ⟨_, rfl⟩
        rw [hR', hM'] at FC
        have HR' := Lib.hid hR'
        have HM' := Lib.hid hM'
        clear hHeld KD d1 d1' d2 d2' MC hR' hM' b1
        go_wp2_with fail
        refine FC.out.mono ?_
        rintro en w5 ⟨A, c, A', c', rfl, OO, hb⟩
        have F5 := Lib.hid (F4.out.next hb)
        have ZZ : Hid (w.heap.size ≤ w4.heap.size) := Lib.hid F4.out.bel.size
        clear FC hb F4 q0 q1 q2 q3 q4
        obtain ⟨c0, c1, c2, c3, c4, c5, c6, c7, c8, c9, cf⟩ := F5.out.ew.eb.cells
        obtain ⟨q2, q3, q4⟩ := F5.out.cl
        have f5 := cf 5
        have f6 := cf 6
        have f7 := cf 7
        have f8 := cf 8
        have f9 := cf 9
        simp only at c5 c6 c7 c8 c9
        have hw : IntKind.u64.wrap ((next : Int) + 1) = ((next + 1 : Nat) : Int) := by rw [IntKind.wrap_u64]; omega
        clear c0 c1 c2 c3 c4 cf
        go_upto_region 10 with fail
        have E6 := Lib.hid (F5.out.ew.eb.reset next l.at_)
        have K6 := Lib.hid (keep_reset (Keep.of_below (· = d) F5.out.bel) next l.at_)
        have dz := F5.out.far
        have hz := ZZ.out
        have O6 := Lib.hid (row_reset OO.out.1 (d := d) (by omega) next l.at_)
        have O7 := Lib.hid (row_reset OO.out.2 (d := d) (by omega) next l.at_)
        clear c5 c6 c7 c8 c9 f5 f6 f7 f8 f9 OO hw
        generalize (((((w5.setCell ⟨d, 5, none⟩ (.int .u64 ((next : Int) + 1))).setCell ⟨d, 6, none⟩ (.int .u64 (l.at_ : Int))).setCell ⟨d, 7, none⟩ (.bool false)).setCell ⟨d, 8, none⟩ (.int .u64 0)).setCell ⟨d, 9, none⟩ (.slice none 0 0)) = w6 at E6 K6 O6 O7 ⊢
        obtain ⟨c0, c1, c2, c3, c4, c5, c6, c7, c8, c9, cf⟩ := E6.out.cells
        have f7 := cf 7
        have f8 := cf 8
        have f9 := cf 9
        simp only at c5 c6 c7 c8 c9
        clear c0 c1 c2 c3 c4 cf
        have NB : Hid (last ≤ l.at_ ∧ l.at_ ≤ 1099511627776 ∧ emay l.E = true) := Lib.hid ⟨by have := H1.out; omega, by have := H2.out; omega, HBM.out⟩
        by_cases h64 : 64 < R'.length
        · have d1 : decide ((64 : Int) < (R'.length : Int)) = true := by simp; omega
          have d1' : decide (64 < R'.length) = true := by simp; omega
          have EE := Lib.hid (E6.out.fails next)
          have KK := Lib.hid (keep_cell (keep_cell K6.out 7 (.bool true)) 8 (.int .u64 (next : Int)))
          have H64 := Lib.hid h64
          clear h64
          go_wp2_with fail
          exact bodyPost_ret (results_tmp2 rfl _ _ _) rfl (Or.inr ⟨NB.out, Or.inl ⟨by rw [HR'.out]; exact H64.out, rfl, KK.out, EE.out⟩⟩)
        · have d1 : decide ((64 : Int) < (R'.length : Int)) = false := by simp; omega
          have d1' : decide (64 < R'.length) = false := by simp; omega
          have EE := Lib.hid (E6.out.runs A R'.length c)
          have KK := Lib.hid (keep_cell K6.out 9 (.slice A R'.length c))
          have P6 := Lib.hid (row_cell O6.out (d := d) (by omega) 9 (.slice A R'.length c))
          have P7 := Lib.hid (row_cell O7.out (d := d) (by omega) 9 (.slice A R'.length c))
          have H64 := Lib.hid h64
          clear h64
          go_wp2_with fail
          refine bodyPost_ret (results_tmp2 rfl _ _ _) rfl (Or.inr ⟨NB.out, Or.inr ⟨by rw [HR'.out]; have := H64.out; omega, A, c, A', c', ?_, KK.out, ?_, ?_⟩⟩)
          · rw [HM'.out]; rfl
          · rw [HR'.out]; exact EE.out
          · rw [HR'.out, HM'.out]; exact Lib.hid ⟨row_mono P6.out (by omega), row_mono P7.out (by omega)⟩
end Go.Proofs.YtpnllbojifnopaaGreatDoor
