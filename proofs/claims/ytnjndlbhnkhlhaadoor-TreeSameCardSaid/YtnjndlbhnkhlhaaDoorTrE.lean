/- formed: whether a pattern's nodes are as their kinds say. -/
import Derived.Test.YtnjndlbhnkhlhaaDoorTrD
namespace Go.Proofs.YtnjndlbhnkhlhaaDoor
open Go Go.RowKit Pk Rl
set_option maxRecDepth 20000

/- a number in a box of its own -/
def Box (w : World) (g : Nat) (v : Int) : Prop := w.heap[g]? = some (.cells #[.int .i64 v] 3 (0, 0))
theorem Box.cell {w : World} {g : Nat} {v : Int} (h : Box w g v) : w.cell? ⟨g, 0, none⟩ = some (.int .i64 v) := by rw [cell_of_row w g 0 _ _ _ h]; rfl
theorem Box.free {w : World} {g : Nat} {v : Int} (h : Box w g v) (j : Nat) : w.frozen? ⟨g, j, none⟩ = false := by
  simp [World.frozen?, Box] at h ⊢
  simp [h]
theorem Box.lt {w : World} {g : Nat} {v : Int} (h : Box w g v) : g < w.heap.size := World.block_lt_of_cell? _ _ h.cell
theorem Box.next {w w' : World} {g : Nat} {v : Int} (h : Box w g v) (hb : Below w.heap.size w w') : Box w' g v := by unfold Box; rw [hb.block g h.lt]; exact h
theorem Box.set {w : World} {g : Nat} {v : Int} (h : Box w g v) (v' : Int) : Box (w.setCell ⟨g, 0, none⟩ (.int .i64 v')) g v' := by
  unfold Box
  rw [heap_setCell_same w g 0 _ _ _ h]
  rfl
theorem Box.start (w : World) (v : Int) : Box (w.alloc (.cells #[.int .i64 v] 3)) w.heap.size v := heap_alloc_new w _
set_option maxHeartbeats 1000000 in
theorem formed1_any (k : Nat) (IH : Hid (∀ a n c L w, n < k → Pt w a n c L → Calls Tryd.prog 24 #[.slice a n c] w fun e w' => e = .returned (.bool (fmd k L)) ∧ Below w.heap.size w w'))
    (w0 : World) (g d : Nat) (hd : d ≤ 1000) (p : List Nd) (A : Option Addr) (n c : Nat) (w : World) (hbox : Box w g (d : Int)) (hP : Pt w0 A n c p) (hn : n < k) (hB : Below w0.heap.size w0 w) (hg : w0.heap.size ≤ g) :
    Calls Tryd.prog 39 #[.slice A n c, .pointer (some ⟨g, 0, none⟩)] w fun e w' => e = .returned (.bool (fmd k p)) ∧ (fmd k p = true → Box w' g ((d + 1 : Nat) : Int)) ∧ Below w0.heap.size w0 w' := by
  have B1 := Lib.hid (show Below w0.heap.size w0 (w.setCell ⟨g, 0, none⟩ (.int .i64 ((d + 1 : Nat) : Int))) from hB.setCell (by exact hg) _)
  have X1 := Lib.hid (hbox.set ((d + 1 : Nat) : Int))
  have I := Lib.hid (IH.out A n c p _ hn (hP.below B1.out))
  have hc := hbox.cell
  have hfr := hbox.free 0
  have hlt := hbox.lt
  rw [show ((d + 1 : Nat) : Int) = (d : Int) + 1 by omega] at B1 X1 I ⊢
  generalize fmd k p = b at I
  clear IH hP hB hbox hn
  go_enter Tryd.func39, Tryd.ntmps39
  go_wp2_with fail
  refine I.out.mono ?_
  rintro e w2 ⟨rfl, hb⟩
  have X2 := Lib.hid (X1.out.next hb)
  have B2 := Lib.hid (B1.out.trans (hb.mono (B1.out.size)))
  clear hb
  go_wp2_with fail
  go_ret
  exact ⟨rfl, fun _ => X2.out, B2.out⟩
theorem ofp_ne {F : List Nd → Bool} {l : List Nd} (h : ofp F l = true) : l ≠ [] := fun e => by subst e; simp [ofp, frn] at h
theorem spl_len {l : List Nd} {ps : List (List Nd)} (h : spl l = some ps) : ps.length ≤ l.length := by
  generalize hk : l.length = k
  induction k using Nat.strongRecOn generalizing l ps with
  | _ k ih =>
    by_cases hl : l = []
    · subst hl; rw [spl_nil] at h; injection h with h; subst h; simp
    · rw [spl_cons l hl] at h
      by_cases hf : frn l = []
      · rw [if_pos hf] at h; cases h
      · rw [if_neg hf] at h
        obtain ⟨qs, hq, rfl⟩ := Option.map_eq_some_iff.1 h
        have hlt := drop_lt l hl hf
        have := ih _ (by omega) hq rfl
        rw [List.length_cons]
        omega
theorem pts_len (l : List Nd) : (pts l).length ≤ l.length := by
  unfold pts
  have h1 := frn_len l
  rcases hs : spl (frn l).tail with _ | ps
  · simp
  · have := spl_len hs
    rw [List.length_tail] at this
    simp only [Option.getD_some]
    omega
abbrev Nh (w0 W : World) (b off : Nat) (nd : Nd) (g m : Nat) : Prop :=
  W.cell? ⟨b, off, none⟩ = some (.int .u8 nd.k) ∧ W.cell? ⟨b, off + 1, none⟩ = some (.bool nd.p.x) ∧ W.cell? ⟨b, off + 2, none⟩ = some (.int .u8 nd.p.t) ∧ W.cell? ⟨b, off + 3, none⟩ = some (.slice nd.p.a nd.p.n nd.p.c) ∧
  W.cell? ⟨b, off + 4, none⟩ = some (.bool nd.y) ∧ W.cell? ⟨b, off + 5, none⟩ = some (.bool nd.g.x) ∧ W.cell? ⟨b, off + 6, none⟩ = some (.int .u8 nd.g.t) ∧ W.cell? ⟨b, off + 7, none⟩ = some (.slice nd.g.a nd.g.n nd.g.c) ∧
  W.cell? ⟨b, off + 8, none⟩ = some (.int .u8 nd.lo) ∧ W.cell? ⟨b, off + 9, none⟩ = some (.int .u8 nd.hi) ∧ W.cell? ⟨b, off + 10, none⟩ = some (.int .i64 nd.s) ∧ W.cell? ⟨g, 0, none⟩ = some (.int .i64 (m : Int)) ∧
  Hid (Below w0.heap.size w0 W ∧ Box W g (m : Int) ∧ Atn W b off nd)
theorem nh_of {w0 W : World} {b off : Nat} {nd : Nd} {g m : Nat} (h1 : Below w0.heap.size w0 W) (h2 : Box W g (m : Int)) (h3 : Atn W b off nd) : Nh w0 W b off nd g m := by
  have h := h3
  obtain ⟨q0, q1, q2, q3, q4, q5, q6, q7, q8, q9, q10⟩ := h
  exact ⟨q0, q1, q2, q3, q4, q5, q6, q7, q8, q9, q10, h2.cell, Lib.hid ⟨h1, h2, h3⟩⟩
theorem nh_next {w0 W W' : World} {b off : Nat} {nd : Nd} {g m : Nat} (hb : Below W.heap.size W W') (h : Nh w0 W b off nd g m) : Nh w0 W' b off nd g m := by
  obtain ⟨_, _, _, _, _, _, _, _, _, _, _, _, H⟩ := h
  obtain ⟨h1, h2, h3⟩ := H.out
  exact nh_of (below_go h1 hb) (h2.next hb) (h3.below hb h3.lt)
set_option maxHeartbeats 2000000 in
theorem formed_any (k : Nat) : ∀ (a : Option Addr) (n c : Nat) (L : List Nd) (w : World), n < k → Pt w a n c L →
    Calls Tryd.prog 24 #[.slice a n c] w fun e w' => e = .returned (.bool (fmd k L)) ∧ Below w.heap.size w w' := by
  induction k with
  | zero => intro a n c L w h; exact absurd h (by omega)
  | succ k ih =>
    intro a n c L w hn hP
    have IH := Lib.hid ih
    clear ih
    have B0 := Lib.hid (below_alloc w (.cells #[.int .i64 0] 3))
    have O := Lib.hid (ofp_formed (fmd k) (fun W D => Box W w.heap.size (D.length : Int)) w w (Below.refl _ _) w.heap.size n
      (Lib.hid fun D p A n' c' W hJ hPp _ hnn hD hB => by
        have := formed1_any k IH w w.heap.size D.length hD p A n' c' W hJ hPp (by omega) hB (Nat.le_refl _)
        refine this.mono ?_
        rintro e w' ⟨rfl, h2, h3⟩
        exact ⟨rfl, fun h => by rw [List.length_append, List.length_singleton]; exact h2 h, h3⟩)
      a n c L _ hP (Nat.le_refl _) (Box.start w 0) B0.out)
    have E : fmd (k + 1) L = (ofp (fmd k) L && kd (L.headD nz) (pts L).length) := rfl
    rw [E]
    have HN := Lib.hid (fun h => ofp_ne (F := fmd k) (l := L) h)
    have HP := Lib.hid hP
    have HL := Lib.hid (pts_len L)
    obtain ⟨m, hm⟩ : ∃ m, (pts L).length = m := ⟨_, rfl⟩
    rw [hm] at HL ⊢
    have HM := Lib.hid hm
    obtain ⟨R, hR⟩ : ∃ R, kd (L.headD nz) m = R := ⟨_, rfl⟩
    rw [hR]
    have HR := Lib.hid hR
    clear E IH hP hn hm hR
    generalize ofp (fmd k) L = b at O HN
    cases b
    · go_enter Tryd.func24, Tryd.ntmps24
      go_wp2_with fail
      refine O.out.mono ?_
      rintro e w2 ⟨rfl, hJ, hB⟩
      have B2 := Lib.hid hB
      clear hJ hB O
      go_wp2_with fail
      go_quiet (fail)
      go_wp2_with fail
      go_ret
      exact ⟨rfl, by first | exact B2.out.drewN _ | exact below_go B2.out (below_drewN _ _ _)⟩
    · rcases L with _ | ⟨nd, r⟩
      · exact absurd rfl (HN.out rfl)
      · obtain ⟨b, off, rfl, hat⟩ := HP.out.row 0 (by simp)
        simp only [Nat.zero_mul, Nat.add_zero, List.getD_cons_zero] at hat
        have hml : m ≤ 1000 := by have := HL.out; have := HP.out.few; have := HP.out.len; omega
        have l1 : (0 : Int) < (n : Int) := by have := HP.out.len; simp at this; omega
        have l2 : 0 < n := by omega
        have HA := Lib.hid hat
        clear hat
        have M := Lib.hid (fun W (hW : Below w.heap.size w W) => kind_any nd m W ((HP.out.ok nd (by simp)).below hW) hml)
        rw [show kd nd m = R from HR.out] at M
        have NN := Lib.hid (fun W (h1 : Below w.heap.size w W) (h2 : Box W w.heap.size (m : Int)) => nh_of h1 h2 (HA.out.below h1 HA.out.lt))
        have MM := Lib.hid (show (pts (nd :: r)).length = m from HM.out)
        clear hml HP HL HN HA HM HR
        go_enter Tryd.func24, Tryd.ntmps24
        go_wp2_with fail
        refine O.out.mono ?_
        rintro e w2 ⟨rfl, hJ, hB⟩
        have N2 := NN.out w2 hB (by rw [← MM.out]; exact hJ (by first | rfl | trivial))
        clear hJ hB O NN MM
        have KD := Lib.hid (nh_next (Below.refl _ _).drew N2)
        obtain ⟨k', ⟨x, t, a', q, c', L'⟩, y, ⟨x2, t2, a2, q2, c2, L2⟩, lo, hi, s⟩ := nd
        obtain ⟨q0, q1, q2', q3, q4, q5, q6, q7, q8, q9, q10, q11, _⟩ := N2
        go_wp2_with fail
        go_region_held3 (fun W => Nh w W b off ⟨k', ⟨x, t, a', q, c', L'⟩, y, ⟨x2, t2, a2, q2, c2, L2⟩, lo, hi, s⟩ w.heap.size m)
          (first | (with_reducible assumption) | (with_reducible exact KD.out) | (with_reducible exact nh_next b1 (by assumption)))
          (first | (go_at_call 40; (with_reducible refine Calls.mono (M.out _ ?_) ?_); (exact (by assumption : Nh w _ b off _ w.heap.size m).2.2.2.2.2.2.2.2.2.2.2.2.out.1); rintro e w' ⟨rfl, b1⟩))
        rename_i hHeld
        go_wp2_with fail
        go_ret
        exact ⟨rfl, hHeld.2.2.2.2.2.2.2.2.2.2.2.2.out.1⟩
end Go.Proofs.YtnjndlbhnkhlhaaDoor
