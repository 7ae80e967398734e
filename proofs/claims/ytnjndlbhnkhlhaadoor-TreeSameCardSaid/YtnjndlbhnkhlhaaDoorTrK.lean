/- The document's build, walked. -/
import Derived.Test.YtnjndlbhnkhlhaaDoorTrJ
namespace Go.Proofs.YtnjndlbhnkhlhaaDoor
open Go Go.RowKit Pk Rl
set_option maxRecDepth 20000

/- a stretch of a row -/
def sub (L : List Nd) (i j : Nat) : List Nd := (L.take j).drop i
theorem sub_len (L : List Nd) (i j : Nat) (h : j ≤ L.length) : (sub L i j).length = j - i := by
  unfold sub; rw [List.length_drop, List.length_take, Nat.min_eq_left h]
theorem sub_cons (L : List Nd) (i j : Nat) (h : i < j) (hj : j ≤ L.length) : sub L i j = L.getD i nz :: sub L (i + 1) j := by
  unfold sub
  rw [ndrop_cons (L.take j) i (by rw [List.length_take, Nat.min_eq_left hj]; exact h), getD_take L j i h]
theorem sub_nil (L : List Nd) (i j : Nat) (h : j ≤ i) : sub L i j = [] := by
  unfold sub
  exact List.drop_eq_nil_of_le (by rw [List.length_take]; omega)
theorem sub_drop (L : List Nd) (i j m : Nat) : (sub L i j).drop m = sub L (i + m) j := by unfold sub; rw [List.drop_drop]
theorem sub_take (L : List Nd) (i j m : Nat) (h : i + m ≤ j) : (sub L i j).take m = sub L i (i + m) := by
  unfold sub
  rw [List.take_drop, List.take_take, Nat.min_eq_left h]
theorem frn_sub (L : List Nd) (i j s : Nat) (h : i + 1 + s ≤ j) (hj : j ≤ L.length) (hs : (L.getD i nz).s = (s : Int)) : frn (sub L i j) = L.getD i nz :: sub L (i + 1) (i + 1 + s) := by
  rw [sub_cons L i j (by omega) hj, frn_cons, if_neg (by rw [sub_len L _ _ hj, hs]; omega), hs, Int.toNat_natCast, sub_take L (i + 1) j s h]
theorem frn_bad (L : List Nd) (i j : Nat) (h : i < j) (hj : j ≤ L.length) (hs : (L.getD i nz).s < 0 ∨ (j : Int) - i - 1 < (L.getD i nz).s) : frn (sub L i j) = [] := by
  rw [sub_cons L i j h hj, frn_cons, if_pos (by rw [sub_len L _ _ hj]; omega)]
theorem bld_frn (k : Nat) (l : List Nd) : bld k (frn l) = bld k l := by
  cases k with
  | zero => rfl
  | succ k => show ofp (bld k) (frn l) = ofp (bld k) l; unfold ofp; rw [frn_idem]
theorem pts_frn (l : List Nd) : pts (frn l) = pts l := by unfold pts; rw [frn_idem]
theorem bld_no {k : Nat} {l : List Nd} (h : frn l = []) : bld k l = false := by
  cases k with
  | zero => rfl
  | succ k => exact ofp_nil h
theorem Kid.new {k : Nat} {w w' : World} {B : Nat} {v : Value} {D : List (List Nd)} (hO : OwnQ k w B v D) (hB : B ≤ w.heap.size) {p : List Nd} {A : Option Addr} (C : Nat) (hT : Trs k w' (fun b => w.heap.size ≤ b ∧ b < w'.heap.size) A (pts p)) : Kid k w' B v p (p.headD nz, A, (pts p).length, C) := by
  obtain ⟨X, h1, h2, h3⟩ := hO
  refine ⟨rfl, rfl, hT.same (fun _ _ => rfl) (fun b hb => ⟨by omega, hb.2, fun e => ?_⟩)⟩
  have := (World.ownsRow.lt h2 b e).2
  omega
structure Bd (k : Nat) (w W : World) (nd : Nd) (A : Option Addr) (m c : Nat) (D : List (List Nd)) : Prop where
  res : Trb W w.heap.size nz none 0 0
  box : Trb W (w.heap.size + 1) nd A m c
  own : OwnQ k W (w.heap.size + 2) (.slice A m c) D
  bel : Below w.heap.size w W
  big : w.heap.size + 2 ≤ W.heap.size
  len : D.length = m
theorem Bd.next {k : Nat} {w W W' : World} {nd : Nd} {A : Option Addr} {m c : Nat} {D : List (List Nd)} (h : Bd k w W nd A m c D) (hb : Below W.heap.size W W') : Bd k w W' nd A m c D :=
  ⟨h.res.below hb (by have := h.big; omega), h.box.below hb (by have := h.big; omega), h.own.below hb, below_go h.bel hb, Nat.le_trans h.big hb.size, h.len⟩
theorem Bd.start (k : Nat) (w : World) (nd : Nd) : Bd k w ((w.alloc (tobjT nz none 0 0)).alloc (tobjT nd none 0 0)) nd none 0 0 [] := by
  have h1 := (Trb.start w nz none 0 0).below (below_alloc _ (tobjT nd none 0 0)) (by simp)
  have h2 := Trb.start (w.alloc (tobjT nz none 0 0)) nd none 0 0
  rw [World.size_alloc] at h2
  exact ⟨h1, h2, OwnQ.nil _ _ _, below_go (below_alloc w _) (below_alloc _ _), by simp, rfl⟩
theorem Bd.step {k : Nat} {w W W' : World} {nd : Nd} {A : Option Addr} {m c : Nat} {D : List (List Nd)} (h : Bd k w W nd A m c D) {A' : Option Addr} {m' c' : Nat} {D' : List (List Nd)} (hO : OwnQ k W' (w.heap.size + 2) (.slice A' m' c') D') (hb : Below (w.heap.size + 2) W W') (hl : D'.length = m') :
    Bd k w (W'.setCell ⟨w.heap.size + 1, 11, none⟩ (.slice A' m' c')) nd A' m' c' D' := by
  refine ⟨?_, (h.box.below hb (by omega)).set _ _ _, hO.set _ _ (by omega) _, (h.bel.trans (hb.mono (by omega))).setCell (by show w.heap.size ≤ w.heap.size + 1; omega) _, by rw [World.size_setCell]; exact Nat.le_trans h.big hb.size, hl⟩
  have := h.res.below hb (by omega)
  unfold Trb at this ⊢
  rw [heap_setCell_other W' ⟨w.heap.size + 1, 11, none⟩ _ _ (by show w.heap.size ≠ w.heap.size + 1; omega)]
  exact this
/- nothing was built -/
theorem Bt.no {k : Nat} {w w' : World} {at_ : Nat} {l : List Nd} (h : bld k l = false) : Bt k w at_ l (.returned (.tuple #[tOfT nz none 0 0, .int .i64 0, .bool false])) w' :=
  ⟨nz, none, 0, 0, 0, by rw [h], fun e => by rw [h] at e; cases e⟩
set_option maxHeartbeats 4000000 in
theorem build_any (k : Nat) : ∀ (a : Option Addr) (n c : Nat) (L : List Nd) (w : World) (i j : Nat), i ≤ j → j ≤ n → j - i < k → Pt w a n c L →
    Calls Tryd.prog 29 #[.slice a n c, .int .i64 (i : Int), .int .i64 (j : Int)] w fun e w' => Bt k w i (sub L i j) e w' ∧ Below w.heap.size w w' := by
  induction k with
  | zero => intro a n c L w i j _ _ h; exact absurd h (by omega)
  | succ k ih =>
    intro a n c L w i j hij hjn hk hP
    have IH := Lib.hid ih
    clear ih
    have BA := Lib.hid (below_alloc w (tobjT nz none 0 0))
    by_cases c1 : j ≤ i
    · have NO := Lib.hid (fun w' => Bt.no (k := k + 1) (w := w) (w' := w') (at_ := i) (l := sub L i j) (by rw [sub_nil L i j c1]; exact bld_no rfl))
      have c1' : (j : Int) ≤ (i : Int) := by omega
      clear IH hP
      generalize sub L i j = l at NO ⊢
      go_enter Tryd.func29, Tryd.ntmps29
      go_wp2_with fail
      exact bodyPost_ret (v := .tuple #[tOfT nz none 0 0, .int .i64 0, .bool false]) (by simp [results, Tryd.results29, go_sem]) rfl ⟨NO.out _, BA.out⟩
    · have hlen := hP.len
      obtain ⟨b, off, rfl, hat⟩ := hP.row i (by omega)
      have s0 := (hP.ok _ (ngetD_mem L i (by omega))).s0
      have s1 := (hP.ok _ (ngetD_mem L i (by omega))).s1
      have c1' : ¬ (j : Int) ≤ (i : Int) := by omega
      have BS := Lib.hid (Bd.start k w (L.getD i nz))
      have HD : Hid ((sub L i j).headD nz = L.getD i nz) := Lib.hid (by rw [sub_cons L i j (by omega) (by omega)]; rfl)
      have FS := Lib.hid (fun s hs => frn_sub L i j s hs (by omega))
      have FB := Lib.hid (frn_bad L i j (by omega) (by omega))
      have hfew := hP.few
      have HP := Lib.hid hP
      obtain ⟨nd, hnd⟩ : ∃ nd, L.getD i nz = nd := ⟨_, rfl⟩
      rw [hnd] at hat s0 s1 BS HD FB FS
      obtain ⟨l, hl⟩ : ∃ l, sub L i j = l := ⟨_, rfl⟩
      rw [hl] at HD FS FB ⊢
      clear hnd hl hP
      have HA := Lib.hid (hat.below BA.out hat.lt)
      obtain ⟨ns, hns⟩ : ∃ ns, nd.s = ns := ⟨_, rfl⟩
      rw [hns] at s0 s1 FB FS
      have hat2 := hat
      obtain ⟨e0, e1, e2, e3, e4, e5, e6, e7, e8, e9, e10⟩ := hat2
      have i1 : (i : Int) < (n : Int) := by omega
      have blt := hat.lt
      by_cases c2 : ns < 0 ∨ (j : Int) - i - 1 < ns
      · have NO := Lib.hid (fun w' => Bt.no (k := k + 1) (w := w) (w' := w') (at_ := i) (l := l) (bld_no (FB.out c2)))
        have B2 := Lib.hid BS.out.bel
        clear IH FS FB HP HA BS hat HD BA
        rw [hns] at e10
        obtain ⟨kk, ⟨x, t, a', qn, c', L'⟩, y, ⟨x2, t2, a2, q2, c2', L2⟩, lo, hi, s⟩ := nd
        simp only at e0 e1 e2 e3 e4 e5 e6 e7 e8 e9 e10 hns
        subst hns
        by_cases c3 : s < 0
        · go_enter Tryd.func29, Tryd.ntmps29
          go_wp2_with fail
          exact bodyPost_ret (v := .tuple #[tOfT nz none 0 0, .int .i64 0, .bool false]) (by simp [results, Tryd.results29, go_sem]) rfl ⟨NO.out _, B2.out⟩
        · have c4 : (j : Int) - (i : Int) - 1 < s := by omega
          go_enter Tryd.func29, Tryd.ntmps29
          go_wp2_with fail
          exact bodyPost_ret (v := .tuple #[tOfT nz none 0 0, .int .i64 0, .bool false]) (by simp [results, Tryd.results29, go_sem]) rfl ⟨NO.out _, B2.out⟩
      · obtain ⟨sn, hsn⟩ : ∃ sn : Nat, ns = (sn : Int) := ⟨ns.toNat, by omega⟩
        have hle : i + 1 + sn ≤ j := by omega
        have FR := Lib.hid (FS.out sn hle hsn)
        obtain ⟨en, hen⟩ : ∃ en, i + 1 + sn = en := ⟨_, rfl⟩
        rw [hen] at FR
        have EN := Lib.hid hen
        have EB := Lib.hid (show en ≤ n ∧ en - (i + 1) < k ∧ n ≤ 1000 by omega)
        have FN := Lib.hid (show frn l ≠ [] by rw [FR.out]; simp)
        have FT := Lib.hid (show (frn l).tail = sub L (i + 1) en by rw [FR.out]; rfl)
        have FL := Lib.hid (show i + (frn l).length = en by rw [FR.out, List.length_cons, sub_len L _ _ (by omega)]; omega)
        have CE := Lib.hid (show ((en : Nat) : Int) = (i : Int) + 1 + (sn : Int) by omega)
        have S0 := Lib.hid (Sp.start (bld k) (frn l).tail)
        have c3 : ¬ ns < 0 := by omega
        have c4 : ¬ (j : Int) - (i : Int) - 1 < (sn : Int) := by omega
        have b1 : (i : Int) + 1 ≤ 2000 := by omega
        have b2 : (i : Int) + 1 + (sn : Int) ≤ 2000 := by omega
        rw [hsn] at hns c3 s0 s1
        obtain ⟨r, hr⟩ : ∃ r, bld (k + 1) l = r := ⟨_, rfl⟩
        have HR : Hid (ofp (bld k) l = r) := Lib.hid hr
        have NO := Lib.hid (fun (h : r = false) w' => Bt.no (k := k + 1) (w := w) (w' := w') (at_ := i) (l := l) (by rw [hr, h]))
        have LE := Lib.hid hlen
        clear c2 hsn FS FB hat BA HA hle hen hr FR
        rw [hns] at e10
        obtain ⟨kk, ⟨x, t, a', qn, c', L'⟩, y, ⟨x2, t2, a2, q2, c2', L2⟩, lo, hi, s⟩ := nd
        simp only at e0 e1 e2 e3 e4 e5 e6 e7 e8 e9 e10 hns
        subst hns
        go_enter Tryd.func29, Tryd.ntmps29
        go_wp2_with fail
        clear e0 e1 e2 e3 e4 e5 e6 e7 e8 e9 e10
        go_loopw [11] (fun v11 W => ∃ (q m c : Nat) (A : Option Addr) (D : List (List Nd)), v11 = .int .i64 (q : Int) ∧ q ≤ en ∧ Hid (i + 1 ≤ q ∧ Bd k w W ⟨kk, ⟨x, t, a', qn, c', L'⟩, y, ⟨x2, t2, a2, q2, c2', L2⟩, lo, hi, (sn : Int)⟩ A m c D ∧ m ≤ q ∧ Sp (bld k) (frn l).tail (sub L q en) D)) (fun v11 _ => en - (intOf v11).toNat)
        case atStart => exact ⟨i + 1, 0, 0, none, [], by go_num, by have := EN.out; omega, Lib.hid ⟨Nat.le_refl _, BS.out, by omega, by rw [← FT.out]; exact S0.out⟩⟩
        case round =>
          obtain ⟨q, m, c, A, D, rfl, hq, H⟩ := hrel
          have Q1 := Lib.hid H.out.1
          have K1 := Lib.hid H.out.2.1
          have M1 := Lib.hid H.out.2.2.1
          have P1 := Lib.hid H.out.2.2.2
          clear H BS S0
          by_cases cq : q < en
          · have cq' : (q : Int) < (i : Int) + 1 + (sn : Int) := by have := CE.out; omega
            have I := Lib.hid (IH.out (some ⟨b, off, none⟩) n _ L wr q en (by omega) EB.out.1 (by have := EB.out.2.1; have := Q1.out; omega) (HP.out.below K1.out.bel))
            rw [CE.out] at I
            obtain ⟨R, hR⟩ : ∃ R, sub L q en = R := ⟨_, rfl⟩
            have RD := Lib.hid (show ∀ u, R.drop u = sub L (q + u) en from fun u => by rw [← hR, sub_drop])
            have RL := Lib.hid (show R.length = en - q by rw [← hR, sub_len L _ _ (by have := LE.out; have := EB.out; omega)])
            have RN := Lib.hid (show R ≠ [] from fun e => by have := RL.out; rw [e] at this; simp at this; omega)
            rw [hR] at I P1
            clear hR
            obtain ⟨z, hz0⟩ : ∃ z, bld k R = z := ⟨_, rfl⟩
            have HZ := Lib.hid hz0
            have I2 : Hid (Calls Tryd.prog 29 #[.slice (some ⟨b, off, none⟩) n _, .int .i64 (q : Int), .int .i64 ((i : Int) + 1 + (sn : Int))] wr fun e w' => ∃ nd A m C N, e = .returned (.tuple #[tOfT nd A m C, .int .i64 (N : Int), .bool z]) ∧ Hid (z = true → nd = R.headD nz ∧ m = (pts R).length ∧ N = ((q + (frn R).length : Nat) : Int) ∧ Trs k w' (fun b => wr.heap.size ≤ b ∧ b < w'.heap.size) A (pts R)) ∧ Below wr.heap.size wr w') := Lib.hid (I.out.mono (by
              rintro e w' ⟨⟨nd', A', m', C', N, e1, h2⟩, hb⟩
              rw [hz0] at e1 h2
              exact ⟨nd', A', m', C', N, e1, Lib.hid h2, hb⟩))
            clear hz0 I IH
            go_wp2_with fail
            refine I2.out.mono ?_
            rintro e w4 ⟨nd4, A4, m4, C4, N4, rfl, HT, hb⟩
            have K4 := Lib.hid (K1.out.next hb)
            cases z
            · have e1 : r = false := by
                rw [← HR.out]
                by_cases h0 : frn R = []
                · exact P1.out.none RN.out h0
                · exact P1.out.no RN.out h0 (by rw [bld_frn]; exact HZ.out)
              subst e1
              obtain ⟨⟨f0, f1, f2, f3, f4, f5, f6, f7, f8, f9, f10⟩, f11⟩ := K4.out.res.cells
              have lt4 := K4.out.res.lt
              have g0 := K4.out.res.free 0
              have g1 := K4.out.res.free 1
              have g2 := K4.out.res.free 2
              have g3 := K4.out.res.free 3
              have g4 := K4.out.res.free 4
              have g5 := K4.out.res.free 5
              have g6 := K4.out.res.free 6
              have g7 := K4.out.res.free 7
              have g8 := K4.out.res.free 8
              have g9 := K4.out.res.free 9
              have g10 := K4.out.res.free 10
              have g11 := K4.out.res.free 11
              go_wp2_with fail
              exact bodyPost_ret (v := .tuple #[tOfT nz none 0 0, .int .i64 0, .bool false]) (by simp [results, Tryd.results29, go_sem, *]) rfl ⟨NO.out (by first | rfl | trivial) _, by refine Below.alloc ?_ (by simp only [World.size_setCell]; exact K4.out.bel.size) _; (repeat (with_reducible refine Below.setCell ?_ (by exact Nat.le_refl _) _)); exact K4.out.bel⟩
            · obtain ⟨t1, t2', t3, t4⟩ := HT.out (by first | rfl | trivial)
              have FN2 : frn R ≠ [] := fun e => by have := bld_no (k := k) e; rw [HZ.out] at this; cases this
              have S2 := Lib.hid (P1.out.step RN.out FN2 (by rw [bld_frn]; exact HZ.out))
              have FL2 := frn_len R
              rw [RL.out] at FL2
              have HD2 := headD_frn FN2
              rw [← pts_frn] at t2' t4
              rw [HD2] at t1
              have FL3 : (frn R).length ≠ 0 := fun e => FN2 (List.eq_nil_of_length_eq_zero e)
              rw [RD.out] at S2
              obtain ⟨pl, hpl⟩ : ∃ pl, (frn R).length = pl := ⟨_, rfl⟩
              rw [hpl] at t3 FL2 FL3 S2
              have FL4 : Hid (pl ≤ en - q ∧ pl ≠ 0) := Lib.hid ⟨FL2, FL3⟩
              clear HD2 hpl RL RD FL2 FL3 FN2 RN P1
              generalize frn R = p at t1 t2' t4 S2
              subst t3
              have KN := Lib.hid (Kid.new K1.out.own K1.out.big C4 t4)
              rw [← t1, ← t2'] at KN
              clear t1 t2'
              have SZ4 : w.heap.size + 2 ≤ w4.heap.size := Nat.le_trans K1.out.big hb.size
              have HO6 : Hid (OwnQ k ((w4.alloc (tobjT nd4 A4 m4 C4)).alloc (tobjT nd4 A4 m4 C4)) (w.heap.size + 2) (.slice A m c) D) := Lib.hid (((K4.out.next (below_alloc _ _)).next (below_alloc _ _)).own)
              have H6 : Hid (((w4.alloc (tobjT nd4 A4 m4 C4)).alloc (tobjT nd4 A4 m4 C4)).heap[w4.heap.size + 1]? = some (tobjT nd4 A4 m4 C4)) := Lib.hid (by
                have := heap_alloc_new (w4.alloc (tobjT nd4 A4 m4 C4)) (tobjT nd4 A4 m4 C4)
                rwa [World.size_alloc] at this)
              have KD6 : Hid (Kid k ((w4.alloc (tobjT nd4 A4 m4 C4)).alloc (tobjT nd4 A4 m4 C4)) (w.heap.size + 2) (.slice A m c) p (nd4, A4, m4, C4)) :=
                Lib.hid (KN.out.mono (fun b _ hb2 _ => (below_go (below_alloc w4 _) (below_alloc _ _)).block b hb2) (by simp; omega))
              have K6 : Hid (Bd k w ((w4.alloc (tobjT nd4 A4 m4 C4)).alloc (tobjT nd4 A4 m4 C4)) ⟨kk, ⟨x, t, a', qn, c', L'⟩, y, ⟨x2, t2, a2, q2, c2', L2⟩, lo, hi, (sn : Int)⟩ A m c D) := Lib.hid ((K4.out.next (below_alloc _ _)).next (below_alloc _ _))
              have DL := Lib.hid (show D.length = m from K1.out.len)
              have M2 := Lib.hid (show m ≤ 1000 by have := M1.out; have := EB.out.2.2; have := EB.out.1; omega)
              have c11 := K4.out.box.cells.2
              have lt11 := K4.out.box.lt
              clear hb t4 HT KN K1 I2
              go_wp2_with (at_builtin; refine wp_appq (.tmp 63) (.tmp 65) _ (by rfl) (by rfl) k (w.heap.size + 2) _ D (by rfl) HO6.out (w4.heap.size + 1) (by rfl) p nd4 A4 m4 C4 H6.out KD6.out (by have := M2.out; have := DL.out; omega) (by simp; omega) (m + 1) (by rw [DL.out]) ?_; intro A7 c7 w7 hO7 hb7; have K7 := Lib.hid (K6.out.step hO7 hb7 (by rw [List.length_append, DL.out]; rfl)); have f7 := ((K6.out.box.below hb7 (by omega)).free 11); have lt7 := ((K6.out.box.below hb7 (by omega)).lt); have cc7 := ((K6.out.box.below hb7 (by omega)).cells.2))
              go_roundw
              case rel => exact ⟨q + pl, m + 1, c7, A7, D ++ [p], rfl, by have := FL4.out; omega, Lib.hid ⟨by have := Q1.out; omega, K7.out, by have := M1.out; have := FL4.out; omega, S2.out⟩⟩
              case measure => simp [intOf]; have := FL4.out; omega
          · obtain rfl : q = en := by omega
            have cq' : ¬ (q : Int) < (i : Int) + 1 + (sn : Int) := by have := CE.out; omega
            have PD := Lib.hid (by have := P1.out; rw [sub_nil L q q (Nat.le_refl _)] at this; exact this.done FN.out)
            obtain ⟨⟨f0, f1, f2, f3, f4, f5, f6, f7, f8, f9, f10⟩, f11⟩ := K1.out.box.cells
            obtain ⟨⟨j0, j1, j2, j3, j4, j5, j6, j7, j8, j9, j10⟩, j11⟩ := K1.out.res.cells
            have g0 := K1.out.res.free 0
            have g1 := K1.out.res.free 1
            have g2 := K1.out.res.free 2
            have g3 := K1.out.res.free 3
            have g4 := K1.out.res.free 4
            have g5 := K1.out.res.free 5
            have g6 := K1.out.res.free 6
            have g7 := K1.out.res.free 7
            have g8 := K1.out.res.free 8
            have g9 := K1.out.res.free 9
            have g10 := K1.out.res.free 10
            have g11 := K1.out.res.free 11
            have lt1 := K1.out.res.lt
            have lt2 := K1.out.box.lt
            have e1 : r = true := by rw [← HR.out]; exact PD.out.1
            subst e1
            obtain ⟨A9, c9, e9, T9⟩ := K1.out.own.form
            have DE : pts l = D := PD.out.2
            injection e9 with e91 e92 e93
            subst e91
            have T10 := Lib.hid T9
            have DE2 := Lib.hid DE
            have DL := Lib.hid K1.out.len
            have BE := Lib.hid K1.out.bel
            have SE := Lib.hid (show bld (k + 1) l = true from HR.out)
            clear e92 e93 T9 DE K1 PD HR NO
            go_wp2_with fail
            refine bodyPost_ret (v := .tuple #[tOfT ⟨kk, ⟨x, t, a', qn, c', L'⟩, y, ⟨x2, t2, a2, q2, c2', L2⟩, lo, hi, (sn : Int)⟩ A m c, .int .i64 (q : Int), .bool true]) (by simp [results, Tryd.results29, go_sem, *]) rfl ⟨⟨_, A, m, c, _, by rw [SE.out], fun _ => ⟨HD.out.symm, by rw [DE2.out, DL.out], by rw [FL.out], ?_⟩⟩, by (repeat (with_reducible refine Below.setCell ?_ (by exact Nat.le_refl _) _)); exact BE.out⟩
            rw [DE2.out]
            refine T10.out.same (fun b hb => ?_) (fun b hb => ⟨by omega, ?_⟩)
            · repeat (with_reducible refine Eq.trans (heap_setCell_other _ _ _ _ (by show b ≠ w.heap.size; have := hb.1; omega)) ?_)
              rfl
            · simp only [World.size_setCell]; exact hb.2
end Go.Proofs.YtnjndlbhnkhlhaaDoor
